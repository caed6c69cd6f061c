import Derived.Deep.QuietTactic
import Derived.BigQuiet
import Derived.Test.YtlcgnbcgmljpaaaGreatFB7
namespace Go.Proofs.YtlcgnbcgmljpaaaGreat
open Go.RowKit
set_option linter.unusedSimpArgs false
set_option linter.unusedVariables false
theorem ap7:∀(r:BF) (s:dh) (a b:BF),(BF.node s a b r).wf->(I5 s a b r).wf∧(I5 s a b r).flat.length<=(BF.node s a b r).flat.length∧(I5 s a b r).depth<=(BF.node s a b r).depth:=by
 intro r
 induction r using BF.ind with
 | nil=>intro s a b h;exact⟨h,Nat.le_refl _,Nat.le_refl _⟩
 | node s' a' b' r' iha ihb ihr =>
  intro s a b h
  obtain⟨h1,h2,h3,h4,h5,h6⟩:=h
  obtain⟨g1,g2,g3,g4,g5,g6⟩:=h6
  rw[I5.eq_2 s a b s' a' b' r']
  by_cases hj:Ko s s'=true
  ·obtain⟨hk,hk',_⟩:=(Rn s s').1 hj
   rw[if_pos hj]
   obtain⟨k1,k2,k3⟩:=ihr s (a.app a') (b.app b') ⟨h1,h2,fun h9=>absurd hk h9,Ua h4 g4,Ua h5 g5,g6⟩
   refine⟨k1,?_,?_⟩
   ·rw[jd,if_pos hk,Aj,Aj] at k2
    rw[jd,if_pos hk,jd,if_pos hk']
    simp only[List.length_append,List.length_cons] at k2 ⊢
    omega
   ·rw[tq,G8,G8] at k3
    rw[tq,tq]
    omega
  ·rw[if_neg hj]
   obtain⟨k1,k2,k3⟩:=ihr s' a' b' ⟨g1,g2,g3,g4,g5,g6⟩
   refine⟨⟨h1,h2,h3,h4,h5,k1⟩,?_,?_⟩
   ·rw[jd,jd]
    split
    ·simp only[List.length_append,List.length_cons] at k2 ⊢
     omega
    ·simp only[List.length_cons] at k2 ⊢
     omega
   ·rw[tq,tq]
    omega
theorem a2k {t:BF} (h:t.wf):(jn t).wf∧(jn t).flat.length<=t.flat.length:=by
 cases t using BF.inv with
 | nil=>exact⟨trivial,Nat.le_refl _⟩
 | node s a b r=>exact⟨(ap7 r s a b h).1,(ap7 r s a b h).2.1⟩
theorem awx:∀n,Am n .nil=.nil:=by
 intro n
 cases n<;>rfl
theorem awy {f:BF->BF} (h0:f .nil=.nil) (hf:∀x:BF,x.wf->(f x).wf∧(f x).flat.length<=x.flat.length) (t:BF) (h:t.wf):(kids f t).wf∧(kids f t).flat.length<=t.flat.length:=by
 induction t using BF.ind with
 | nil=>exact⟨trivial,Nat.le_refl _⟩
 | node s a b r iha ihb ihr =>
  obtain⟨h1,h2,h3,h4,h5,h6⟩:=h
  obtain⟨k1,k2⟩:=ihr h6
  obtain⟨a1,a2⟩:=hf a h4
  obtain⟨b1,b2⟩:=hf b h5
  refine⟨⟨h1,h2,fun h9=>?_,a1,b1,k1⟩,?_⟩
  ·obtain⟨rfl,rfl⟩:=h3 h9
   exact⟨h0,h0⟩
  ·show (BF.node s (f a) (f b) (kids f r)).flat.length<=_
   rw[jd,jd]
   split
   ·simp only[List.length_append,List.length_cons]
    omega
   ·simp only[List.length_cons]
    omega
theorem ap8:∀(n:Nat) (t:BF),t.wf->(Am n t).wf∧(Am n t).flat.length<=t.flat.length:=by
 intro n
 induction n with
 | zero=>intro t h;exact⟨h,Nat.le_refl _⟩
 | succ n ih =>
  intro t h
  obtain⟨h1,h2⟩:=a2k h
  obtain⟨h3,h4⟩:=awy (awx n) ih (jn t) h1
  exact⟨h3,Nat.le_trans h4 h2⟩
set_option maxRecDepth 20000 in
set_option maxHeartbeats 4000000 in
theorem akt (w:World) (k:ak) (t:BF) (nm:ByteArray) (i1 i2 i3 i4 i5:Option Addr) (j1 j2 j3 j4 j5 h1 h2 h3 h4 h5:Nat) (ba:Option Addr) (bc:Nat) (Bc:List (Raw 6)) (subs:List (List Nat)) (hov:dw zh w 0 (.slice ba Bc.length bc) Bc) (hall:zn (fun c x s=>Aa w c.1 x s) Bc t.flat subs) (ht:t.wf) (hl:t.flat.length<=1000000) :
  Calls Tryz.prog 61 #[.agg #[.string nm,.slice i1 j1 h1,.slice i2 j2 h2,.slice i3 j3 h3,.slice i4 j4 h4,.slice i5 j5 h5,.slice ba Bc.length bc]] w (fun e w'=>∃v6 cs' aen,e=.returned (.agg #[.string nm,.slice i1 j1 h1,.slice i2 j2 h2,.slice i3 j3 h3,.slice i4 j4 h4,.slice i5 j5 h5,v6])∧dw zh w' w.heap.size v6 cs'∧zn (fun c x s=>Aa w c.1 x s) cs' (Am (t.depth+1) t).flat aen∧(∀x,aen.flatten.count x<=subs.flatten.count x)∧Below w.heap.size w w'):=by
 obtain⟨PO,Af⟩:∃PO:Ending->World->Prop,PO=(fun e w'=>∃v6 cs' aen,e=.returned (.agg #[.string nm,.slice i1 j1 h1,.slice i2 j2 h2,.slice i3 j3 h3,.slice i4 j4 h4,.slice i5 j5 h5,v6])∧dw zh w' w.heap.size v6 cs'∧zn (fun c x s=>Aa w c.1 x s) cs' (Am (t.depth+1) t).flat aen∧(∀x,aen.flatten.count x<=subs.flatten.count x)∧Below w.heap.size w w'):=⟨_,rfl⟩
 rw[←Af]
 have Fh:=hide Af
 clear Af
 have hal:=hall.len
 obtain⟨wA,hwA⟩:∃z,z=((((w.alloc (.cells #[.string nm,.slice i1 j1 h1,.slice i2 j2 h2,.slice i3 j3 h3,.slice i4 j4 h4,.slice i5 j5 h5,.slice ba Bc.length bc] 43)).alloc (.cells #[.string ⟨#[]⟩,.slice none 0 0,.slice none 0 0,.slice none 0 0,.slice none 0 0,.slice none 0 0,.slice none 0 0] 43)).alloc (.cells #[.slice ba Bc.length bc,.int .i64 0] 130)).alloc (.cells #[.slice none 0 0] 133)):=⟨_,rfl⟩
 have hsA:wA.heap.size=w.heap.size+4:=by rw[hwA];simp
 have hA:Below w.heap.size w wA:=by rw[hwA];exact((((Below.refl _ _).alloc (Nat.le_refl _) _).alloc (by simp) _).alloc (by simp;omega) _).alloc (by simp;omega) _
 have bC:au wA w.heap.size 43 #[.string nm,.slice i1 j1 h1,.slice i2 j2 h2,.slice i3 j3 h3,.slice i4 j4 h4,.slice i5 j5 h5,.slice ba Bc.length bc]:=by rw[hwA];exact Ol (Ol (Ol (Bq rfl) _) _) _
 have bR:au wA (w.heap.size+1) 43 #[.string ⟨#[]⟩,.slice none 0 0,.slice none 0 0,.slice none 0 0,.slice none 0 0,.slice none 0 0,.slice none 0 0]:=by rw[hwA];exact Ol (Ol (Bq (by simp)) _) _
 have bU:au wA (w.heap.size+1+1) 130 #[.slice ba Bc.length bc,.int .i64 ((0:Nat):Int)]:=by rw[hwA];exact Ol (Bq (by simp)) _
 have bF:au wA (w.heap.size+1+1+1) 133 #[.slice none 0 0]:=by rw[hwA];exact Bq (by simp)
 have qg:=hide (ap5 w (w.heap.size+1+1) (.slice ba Bc.length bc) Bc t.flat subs hall hl (t.flat.length+1) t [] 0 wA (Nat.lt_succ_self _) ht (by simp) (fun x hx=>by cases hx) (Nat.zero_le _) (hov.below hA) bU)
 have HAA:=hide (And.intro hA (And.intro bC (And.intro bR (And.intro bU (And.intro bF hsA)))))
 have HTT:=hide (And.intro ht (And.intro hl hal))
 clear hall hov ht hl hal hA bC bR bU bF hsA
 rw[hwA] at qg
 go_enter Tryz.func61,Tryz.ntmps61
 go_wp2_with fail
 refine(uh qg).mono ?_
 rintro e w1 ⟨va,css,fs,ss,rfl,o1,k1,n1,l1,c1,_,g1⟩
 rw[←hwA] at o1 l1 g1
 obtain⟨hA,bC,bR,bU,bF,hsA⟩:=uh HAA
 obtain⟨ht,hl,hal⟩:=uh HTT
 have HC2:=hide (ata w (t.depth+1) t w1 va css fs ss (Nat.lt_succ_self _) ht hl (o1.low (Nat.zero_le _)) k1 n1)
 have bC1:=bC.gr g1 (fun e9=>by have:=Option.some.inj e9;omega)
 have bR1:=bR.gr g1 (fun e9=>by have:=Option.some.inj e9;omega)
 have bF1:=bF.gr g1 (fun e9=>by have:=Option.some.inj e9;omega)
 have hB1:Below w.heap.size w w1:=⟨g1.os.trans hA.os,g1.tape.trans hA.tape,g1.output.trans hA.output,Nat.le_trans hA.size g1.size,fun x hx=>(g1.block x (by omega) (fun e9=>by have:=Option.some.inj e9;omega)).trans (hA.block x hx)⟩
 have hs1:=g1.size
 have HW1:=hide (And.intro bC1 (And.intro bR1 (And.intro bF1 (And.intro hB1 (And.intro l1 (And.intro c1 (And.intro hs1 hsA)))))))
 clear o1 k1 n1 l1 c1 g1 hA bC bR bU bF hsA ht hl hal bC1 bR1 bF1 hB1 hs1 qg HAA hwA
 go_wp2_with fail
 refine(uh HC2).mono ?_
 rintro e w2 ⟨vb,a3v,fs2,ss2,rfl,o2,k2,ft2,N9,Ue⟩
 obtain⟨bC1,bR1,bF1,hB1,l1,c1,hs1,hsA⟩:=uh HW1
 obtain⟨ht,hl,hal⟩:=uh HTT
 have ns:∀b,b<w.heap.size+4->b∉fs:=fun b hb h9=>by have:=l1 b h9;omega
 have bC2:au w2 w.heap.size 43 _:=(Ue.block _ bC1.lt (ns _ (by omega))).trans bC1
 have bR2:au w2 (w.heap.size+1) 43 _:=(Ue.block _ bR1.lt (ns _ (by omega))).trans bR1
 have bF2:au w2 (w.heap.size+1+1+1) 133 _:=(Ue.block _ bF1.lt (ns _ (by omega))).trans bF1
 have hB2:Below w.heap.size w w2:=⟨Ue.os.trans hB1.os,Ue.tape.trans hB1.tape,Ue.output.trans hB1.output,Nat.le_trans hB1.size Ue.size,fun x hx=>(Ue.block x (Nat.lt_of_lt_of_le hx hB1.size) (ns x (by omega))).trans (hB1.block x hx)⟩
 obtain⟨fw1,fw2⟩:=ap8 (t.depth+1) t ht
 have Io:=hide (ap3 w w.heap.size (w.heap.size+1+1+1) ((Am (t.depth+1) t).flat.length+1) (Am (t.depth+1) t) (Nat.lt_succ_self _) fw1 w2 vb a3v fs2 ss2 [] [] ⟨.slice none 0 0,[],[],bF2,dw.nil _ _,.nil,rfl⟩ o2 k2 (by simp only[List.length_nil];omega) hB2.size)
 have HW2:=hide (And.intro bC2 (And.intro bR2 (And.intro hB2 (And.intro c1 N9))))
 clear bC1 bR1 bF1 hB1 l1 c1 hs1 hsA ht hl hal ns bC2 bR2 bF2 hB2 fw1 fw2 o2 k2 ft2 N9 Ue HC2 HW1
 go_wp2_with fail
 refine(uh Io).mono ?_
 rintro e w3 ⟨rfl,⟨bv,Y2,a2l,bF3,o3,aiu,hs3⟩,kp3⟩
 obtain⟨bC2,bR2,hB2,c1,N9⟩:=uh HW2
 obtain⟨ba3,bc3,hbv⟩:=o3.slice
 subst hbv
 have Y3:=kp3.blk bC2 (by decide) (by omega)
 have P8:=kp3.blk bR2 (by decide) (by omega)
 have hB3:Below w.heap.size w w3:=⟨kp3.os.trans hB2.os,kp3.tape.trans hB2.tape,kp3.output.trans hB2.output,Nat.le_trans hB2.size kp3.size,fun x hx=>by
  have hx2:=Nat.lt_of_lt_of_le hx hB2.size
  exact(kp3.other x _ (Array.getElem?_eq_getElem hx2) (by omega) (Or.inl hx)).trans ((Array.getElem?_eq_getElem hx2).symm.trans (hB2.block x hx))⟩
 have f0:=bF3.cell (i:=0) (v:=.slice ba3 Y2.length bc3) rfl
 have p0:=Y3.cell (i:=0) (v:=.string nm) rfl
 have p1:=Y3.cell (i:=1) (v:=.slice i1 j1 h1) rfl
 have p2:=Y3.cell (i:=2) (v:=.slice i2 j2 h2) rfl
 have p3:=Y3.cell (i:=3) (v:=.slice i3 j3 h3) rfl
 have p4:=Y3.cell (i:=4) (v:=.slice i4 j4 h4) rfl
 have p5:=Y3.cell (i:=5) (v:=.slice i5 j5 h5) rfl
 have p6:=Y3.cell (i:=6) (v:=.slice ba Bc.length bc) rfl
 have pz:=Y3.free 6
 have r0:=P8.cell (i:=0) (v:=.string ⟨#[]⟩) rfl
 have r1:=P8.cell (i:=1) (v:=.slice none 0 0) rfl
 have r2:=P8.cell (i:=2) (v:=.slice none 0 0) rfl
 have r3:=P8.cell (i:=3) (v:=.slice none 0 0) rfl
 have r4:=P8.cell (i:=4) (v:=.slice none 0 0) rfl
 have r5:=P8.cell (i:=5) (v:=.slice none 0 0) rfl
 have r6:=P8.cell (i:=6) (v:=.slice none 0 0) rfl
 have y0:=P8.free 0
 have y1:=P8.free 1
 have y2:=P8.free 2
 have y3:=P8.free 3
 have y4:=P8.free 4
 have y5:=P8.free 5
 have y6:=P8.free 6
 have Y4:=hide o3
 have HW3:=hide (And.intro aiu (And.intro hs3 (And.intro c1 (And.intro N9 (And.intro hB3 (And.intro Y3 P8))))))
 clear bC2 bR2 hB2 c1 N9 Y3 P8 hB3 bF3 o3 aiu hs3 kp3 Io HW2
 obtain⟨w9,hw9⟩:∃z,z=((((((((w3.setCell ⟨w.heap.size,6,none⟩ (.slice ba3 Y2.length bc3)).setCell ⟨w.heap.size+1,0,none⟩ (.string nm)).setCell ⟨w.heap.size+1,1,none⟩ (.slice i1 j1 h1)).setCell ⟨w.heap.size+1,2,none⟩ (.slice i2 j2 h2)).setCell ⟨w.heap.size+1,3,none⟩ (.slice i3 j3 h3)).setCell ⟨w.heap.size+1,4,none⟩ (.slice i4 j4 h4)).setCell ⟨w.heap.size+1,5,none⟩ (.slice i5 j5 h5)).setCell ⟨w.heap.size+1,6,none⟩ (.slice ba3 Y2.length bc3)):=⟨_,rfl⟩
 have zu:Hid (PO (.returned (.agg #[.string nm,.slice i1 j1 h1,.slice i2 j2 h2,.slice i3 j3 h3,.slice i4 j4 h4,.slice i5 j5 h5,.slice ba3 Y2.length bc3])) w9):=by
  obtain⟨aiu,hs3,c1,N9,hB3,Y3,P8⟩:=uh HW3
  have hne0:(Value.slice ba3 Y2.length bc3).ownBlock≠some w.heap.size:=fun e9=>dw.Aw (uh Y4) Y3 (by decide) e9
  have hne1:(Value.slice ba3 Y2.length bc3).ownBlock≠some (w.heap.size+1):=fun e9=>dw.Aw (uh Y4) P8 (by decide) e9
  rw[uh Fh,hw9]
  refine hide ⟨.slice ba3 Y2.length bc3,Y2,a2l,rfl,?_,aiu,fun x=>?_,?_⟩
  ·exact ownsRow_setCell_other (ownsRow_setCell_other (ownsRow_setCell_other (ownsRow_setCell_other (ownsRow_setCell_other (ownsRow_setCell_other (ownsRow_setCell_other (ownsRow_setCell_other (uh Y4) hne0 _) hne1 _) hne1 _) hne1 _) hne1 _) hne1 _) hne1 _) hne1 _
  ·have h9:=c1 x
   have h8:=N9 x
   rw[hs3]
   have hal:=(uh HTT).2.2
   rw[List.drop_zero,List.take_of_length_le (by omega)] at h9
   simpa using Nat.le_trans h8 h9
  ·exact(((((((hB3.setCell (Nat.le_refl _) _).setCell (Nat.le_succ _) _).setCell (Nat.le_succ _) _).setCell (Nat.le_succ _) _).setCell (Nat.le_succ _) _).setCell (Nat.le_succ _) _).setCell (Nat.le_succ _) _).setCell (Nat.le_succ _) _
 have E9:Hid (au w9 (w.heap.size+1) 43 #[.string nm,.slice i1 j1 h1,.slice i2 j2 h2,.slice i3 j3 h3,.slice i4 j4 h4,.slice i5 j5 h5,.slice ba3 Y2.length bc3]):=by
  obtain⟨aiu,hs3,c1,N9,hB3,Y3,P8⟩:=uh HW3
  have bR4:au (w3.setCell ⟨w.heap.size,6,none⟩ (.slice ba3 Y2.length bc3)) (w.heap.size+1) 43 _:=(Below.heap_setCell _ _ _ _ (by simp)).trans P8
  rw[hw9]
  exact hide ((((((((bR4.set 0 (.string nm)).set 1 (.slice i1 j1 h1)).set 2 (.slice i2 j2 h2)).set 3 (.slice i3 j3 h3)).set 4 (.slice i4 j4 h4)).set 5 (.slice i5 j5 h5)).set 6 (.slice ba3 Y2.length bc3)))
 go_wp2
 rw[←hw9]
 have q0:=(uh E9).cell (i:=0) (v:=.string nm) rfl
 have q1:=(uh E9).cell (i:=1) (v:=.slice i1 j1 h1) rfl
 have q2:=(uh E9).cell (i:=2) (v:=.slice i2 j2 h2) rfl
 have q3:=(uh E9).cell (i:=3) (v:=.slice i3 j3 h3) rfl
 have q4:=(uh E9).cell (i:=4) (v:=.slice i4 j4 h4) rfl
 have q5:=(uh E9).cell (i:=5) (v:=.slice i5 j5 h5) rfl
 have q6:=(uh E9).cell (i:=6) (v:=.slice ba3 Y2.length bc3) rfl
 exact bodyPost_ret (v:=.agg #[.string nm,.slice i1 j1 h1,.slice i2 j2 h2,.slice i3 j3 h3,.slice i4 j4 h4,.slice i5 j5 h5,.slice ba3 Y2.length bc3]) (by simp[results,Tryz.results61,go_sem,q0,q1,q2,q3,q4,q5,q6]) rfl (uh zu)
def Jf (k:ak) (t:BF):ak:={ k with body:=(Am (t.depth+1) t).flat }
def MF (w:World) (ks:List ak) (ts:List BF) (subs:List (List Nat)) (q:Nat) (lv:Value) (wr:World):Prop:=∃cm sm,dw uj wr w.heap.size lv cm∧zn (fun c x s=>oh wr c.1 x s) cm ((List.zipWith Jf ks ts).take q) sm∧(∀x,(gu lv).count x+sm.flatten.count x+(subs.drop q).flatten.count x<=if x<w.heap.size then subs.flatten.count x else 1)
theorem afn {w:World} {cs:List (Raw 7)} {ks:List ak} {subs:List (List Nat)} (h:zn (fun c x s=>oh w c.1 x s) cs ks subs):Dc Tq subs.flatten w:=fun b hb=>by
 obtain⟨s,hs,hb2⟩:=List.mem_flatten.1 hb
 obtain⟨i,hi,rfl⟩:=List.mem_iff_getElem.1 hs
 have hl:=h.len
 exact zy _ _ _ _ (h.get i (by omega) (by omega) hi) b hb2
theorem MF.snoc {w wr w1 wA w5:World} {ks:List ak} {ts:List BF} {subs:List (List Nat)} {q:Nat} {lv Oo:Value} (cm:List (Raw 7)) (sm:List (List Nat)) (hoo:dw uj wr w.heap.size lv cm) (hal:zn (fun c x s=>oh wr c.1 x s) cm ((List.zipWith Jf ks ts).take q) sm) (hcn:∀x,(gu lv).count x+sm.flatten.count x+(subs.drop q).flatten.count x<=if x<w.heap.size then subs.flatten.count x else 1)
  (hq:q<subs.length) (hsl:∀x,x∈subs.flatten->x<w.heap.size) (hws:w.heap.size<=wr.heap.size) (h1:Below wr.heap.size wr w1) (hA:Below w1.heap.size w1 wA) {c:Raw 7} {k:ak} {bs':List Nat} {v6:Value} (hT:oh w1 c.1 k bs') (hk:(List.zipWith Jf ks ts).take (q+1)=(List.zipWith Jf ks ts).take q++[k]) (hb6:∀x,bs'.count x<=(subs[q]).count x+(gu v6).count x) (hv6:∀x,x∈gu v6->wr.heap.size<=x∧x<w1.heap.size)
  (Bh:dw uj w5 w.heap.size Oo (cm++[c])) (hg5:wA.grownBy w5 lv.ownBlock) (Eh:∀b,Oo.ownBlock=some b->lv.ownBlock=some b∨wA.heap.size<=b):MF w ks ts subs (q+1) Oo w5:=by
 have hz1:=h1.size
 have hzA:=hA.size
 have hoA:=(hoo.below h1).below hA
 have ate:=afn hal
 have a6b:∀bs,(∀b,b∈bs->b<wr.heap.size)->Fr bs wr w1:=fun bs hb b hbb=>h1.block b (hb b hbb)
 refine⟨cm++[c],sm++[bs'],Bh,?_,fun x=>?_⟩
 ·rw[hk]
  refine zn.app ?_ (.cons ?_ .nil)
  ·refine hal.mono (fun c x s _ _ hs h9=>?_)
   have hin:∀b,b∈s->b∈sm.flatten:=fun b hb=>List.mem_flatten.2 ⟨s,hs,hb⟩
   have e1:=zx _ w1 _ _ _ h9 (fun b hb=>h1.block b (ate.lt b (hin b hb)))
   have e2:=zx _ wA _ _ _ e1 (fun b hb=>hA.block b (Nat.lt_of_lt_of_le (ate.lt b (hin b hb)) hz1))
   exact zx _ w5 _ _ _ e2 (Zv hoA hg5 (zy _ _ _ _ e2) (by decide))
  ·have e2:=zx _ wA _ _ _ hT (fun b hb=>hA.block b ((zy _ _ _ _ hT).lt b hb))
   exact zx _ w5 _ _ _ e2 (Zv hoA hg5 (zy _ _ _ _ e2) (by decide))
 ·have h9:=hcn x
  have h8:=hb6 x
  rw[List.drop_eq_getElem_cons hq,List.flatten_cons,List.count_append] at h9
  rw[List.flatten_append,List.count_append]
  have e0:[bs'].flatten=bs':=by simp
  rw[e0]
  by_cases hx:x<wr.heap.size
  ·have e1:=ab9 Eh x (by omega)
   have e2:(gu v6).count x=0:=List.count_eq_zero.2 (fun hm=>by have:=hv6 x hm;omega)
   split at h9
   ·rw[if_pos (by assumption)];omega
   ·rw[if_neg (by assumption)];omega
  ·have hxr:wr.heap.size<=x:=by omega
   have e1:=Di ate.lt hxr
   have e2:(subs[q]).count x=0:=List.count_eq_zero.2 (fun hm=>by have:=hsl x (List.mem_flatten.2 ⟨_,List.getElem_mem hq,hm⟩);omega)
   have e3:(subs.drop (q+1)).flatten.count x=0:=List.count_eq_zero.2 (fun hm=>by
    obtain⟨s,hs,hb⟩:=List.mem_flatten.1 hm
    have:=hsl x (List.mem_flatten.2 ⟨s,List.mem_of_mem_drop hs,hb⟩)
    omega)
   have e4:(gu Oo).count x+(gu v6).count x<=1:=by
    have c1:=Vz Oo x
    have c2:=Vz v6 x
    by_cases hm:x∈gu v6
    ·have hh:=hv6 x hm
     have c3:(gu Oo).count x=0:=List.count_eq_zero.2 (fun h7=>by
      rcases Eh x (iq.1 h7) with h6|h6
      ·have:=(World.ownsRow.lt hoo x h6).2;omega
      ·omega)
     omega
    ·rw[List.count_eq_zero.2 hm];omega
   rw[if_neg (by omega)]
   omega
set_option maxRecDepth 20000 in
set_option maxHeartbeats 4000000 in
theorem ank (w:World) (v:Value) (css:List (Raw 7)) (ks:List ak) (ts:List BF) (subs:List (List Nat)) (hov:dw uj w 0 v css) (hbt:css.length*160<=140737488355328) (hall:zn (fun c x s=>oh w c.1 x s) css ks subs) (hnd:subs.flatten.Nodup) (htl:ts.length=ks.length) (hts:∀i (h1:i<ts.length) (h2:i<ks.length),ts[i].wf∧ts[i].flat=ks[i].body∧ts[i].flat.length<=1000000) :
  Calls Tryz.prog 59 #[v,.func (.func 61) #[] #[]] w (fun e w'=>∃v',e=.returned v'∧MF w ks ts subs ks.length v' w'∧Below w.heap.size w w'):=by
 obtain⟨a,cap,hv⟩:=hov.slice
 subst hv
 have hal:=hall.len
 have HST:Hid (MF w ks ts subs 0 (.slice none 0 0) w):=hide ⟨[],[],dw.nil _ _,by rw[List.take_zero];exact .nil,fun x=>by
  have h9:=Jt.1 hnd x
  have h8:(gu (.slice none 0 0)).count x=0:=rfl
  rw[h8,List.drop_zero]
  simp only[List.flatten_nil,List.count_nil,Nat.zero_add]
  split
  ·exact Nat.le_refl _
  ·exact h9⟩
 have HT:=hide (And.intro hov (And.intro hall (And.intro hnd (And.intro htl hts))))
 have HAL:=hide hal
 have vg:=hide hbt
 obtain⟨L,hL⟩:∃z,z=css.length:=⟨_,rfl⟩
 have hLb:L<=140737488355328:=by omega
 have HL:=hide hL
 rw[←hL]
 clear hov hbt hall hnd htl hts hal hL
 obtain⟨PO,Af⟩:∃PO:Ending->World->Prop,PO=(fun e w'=>∃v',e=.returned v'∧MF w ks ts subs ks.length v' w'∧Below w.heap.size w w'):=⟨_,rfl⟩
 rw[←Af]
 have Fh:=hide Af
 clear Af
 go_enter Tryz.func59,Tryz.ntmps59
 go_wp2
 go_loopg [5,10] L (fun g mv i wr=>∃q:Nat,q<=L∧g=L-q∧i=.int .i64 q∧Hid (MF w ks ts subs q mv wr)∧Hid (Below w.heap.size w wr))
 case atStart=>exact⟨0,Nat.zero_le _,by omega,rfl,HST,Below.refl _ _⟩
 case round =>
  obtain⟨q,hq,hg,rfl,HO,HB⟩:=hrel
  have HG:=hide hg
  clear hg
  by_cases hlt:q<L
  ·obtain⟨hov,hall,hnd,htl,hts⟩:=uh HT
   have hal:=uh HAL
   have hqc:q<css.length:=by rw[←uh HL];exact hlt
   have hqk:q<ks.length:=by omega
   have hqt:q<ts.length:=by omega
   have hqs:q<subs.length:=by omega
   have hTC:=hall.get q hqc hqk hqs
   obtain⟨hw1,hw2,hw3⟩:=hts q hqt hqk
   have hsT:=afn hall
   have hsl:=hsT.lt
   obtain⟨g,atc,yx,hcells⟩:=Zw (hov.below (uh HB)) q hqc
   simp only[Value.slice.injEq] at yx
   obtain⟨rfl,hv8,rfl⟩:=yx
   clear hv8
   have hwv:Below w.heap.size w wr:=uh HB
   have hTr:=zx _ wr _ _ _ hTC (fun b hb=>hwv.block b (hsl b (List.mem_flatten.2 ⟨_,List.getElem_mem hqs,hb⟩)))
   have hkz:(List.zipWith Jf ks ts).take (q+1)=(List.zipWith Jf ks ts).take q++[Jf ks[q] ts[q]]:=by
    rw[List.take_succ_eq_append_getElem (by rw[List.length_zipWith];omega),List.getElem_zipWith]
   generalize ks[q]=k at hTr hTC hkz hw2
   generalize ts[q]=tt at hw1 hw2 hw3 hkz
   have hsq:∀x,x∈subs[q]->x<w.heap.size:=fun x hx=>hsl x (List.mem_flatten.2 ⟨_,List.getElem_mem hqs,hx⟩)
   have HSQ:Hid (∃s,s=subs[q]):=hide ⟨_,rfl⟩
   obtain⟨u1,u2,u3,u4,u5,u6,b1,b2,b3,b4,b5,b6,hcs,hnm,g1,g2,g3,g4,g5,g6,hbs⟩:=hTr
   obtain⟨i1,h1,rfl⟩:=g1.1.slice
   obtain⟨i2,h2,rfl⟩:=g2.1.slice
   obtain⟨i3,h3,rfl⟩:=g3.1.slice
   obtain⟨i4,h4,rfl⟩:=g4.1.slice
   obtain⟨i5,h5,rfl⟩:=g5.1.slice
   obtain⟨Bc,anl,o6,l6,a6,hb6⟩:=g6
   obtain⟨i6,h6,rfl⟩:=o6.slice
   rw[hcs] at hcells
   have c0:=hcells 0 _ rfl
   have c1:=hcells 1 _ rfl
   have c2:=hcells 2 _ rfl
   have c3:=hcells 3 _ rfl
   have c4:=hcells 4 _ rfl
   have c5:=hcells 5 _ rfl
   have c6:=hcells 6 _ rfl
   simp only[Nat.add_zero] at c0
   have hA:Below wr.heap.size wr (wr.alloc (.cells #[.string k.name,.slice i1 k.ins.length h1,.slice i2 k.outs.length h2,.slice i3 k.ay.length h3,.slice i4 k.aj.length h4,.slice i5 k.insts.length h5,.slice i6 Bc.length h6] 43)):=(Below.refl _ _).alloc (Nat.le_refl _) _
   have ace:∀x,x∈anl.flatten->x<w.heap.size:=fun x hx=>hsq x (by rw[hbs,hb6];simp[hx])
   have Yk:=hide (akt (wr.alloc (.cells #[.string k.name,.slice i1 k.ins.length h1,.slice i2 k.outs.length h2,.slice i3 k.ay.length h3,.slice i4 k.aj.length h4,.slice i5 k.insts.length h5,.slice i6 Bc.length h6] 43)) k tt k.name i1 i2 i3 i4 i5 k.ins.length k.outs.length k.ay.length k.aj.length k.insts.length h1 h2 h3 h4 h5 i6 h6 Bc anl (o6.below hA) (by rw[hw2];exact a6.mono (fun c x s _ _ hs h9=>I4 _ _ _ _ _ h9 (fun b hb=>hA.block b (Nat.lt_of_lt_of_le (ace b (List.mem_flatten.2 ⟨s,hs,hb⟩)) hwv.size)))) hw1 hw3)
   have HH:=hide (And.intro hnm (And.intro g1 (And.intro g2 (And.intro g3 (And.intro g4 (And.intro g5 (And.intro hbs hb6)))))))
   have Xo:=hide (And.intro hA (And.intro hkz (And.intro ace (And.intro hsl (And.intro hqs (And.intro hw1 hw3))))))
   have hqI:(q:Int)<(L:Int):=by omega
   clear hov hall hnd htl hts hal hqc hqk hqt hTC hw1 hw2 hw3 hsT hsl hcells hwv hkz hsq HSQ hcs hnm g1 g2 g3 g4 g5 l6 a6 hb6 o6 hbs hA ace
   go_wp2_with fail
   refine(uh Yk).mono ?_
   rintro e w1 ⟨v6,cs9,atf,rfl,o9,a9,ct9,jc⟩
   obtain⟨o6,p6,hv6⟩:=o9.slice
   obtain⟨n6,hn6⟩:∃z,z=cs9.length:=⟨_,rfl⟩
   rw[←hn6] at hv6
   subst hv6
   obtain⟨cm,sm,hoo,hal,hcn⟩:=uh HO
   obtain⟨hnm,g1,g2,g3,g4,g5,hbs,hb6⟩:=uh HH
   obtain⟨hA,hkz,ace,hsl,ay8,hw1,hw3⟩:=uh Xo
   have h1r:Below wr.heap.size wr w1:=hA.trans (jc.mono hA.size)
   have h2w:Below w.heap.size w w1:=(uh HB).trans (h1r.mono (uh HB).size)
   have hA2:Below w1.heap.size w1 (w1.alloc (.cells #[.string k.name,.slice i1 k.ins.length h1,.slice i2 k.outs.length h2,.slice i3 k.ay.length h3,.slice i4 k.aj.length h4,.slice i5 k.insts.length h5,.slice o6 n6 p6] 43)):=(Below.refl _ _).alloc (Nat.le_refl _) _
   have Ee:=hide ((hoo.below h1r).below hA2)
   have h4w:Below w.heap.size w (w1.alloc (.cells #[.string k.name,.slice i1 k.ins.length h1,.slice i2 k.outs.length h2,.slice i3 k.ay.length h3,.slice i4 k.aj.length h4,.slice i5 k.insts.length h5,.slice o6 n6 p6] 43)):=h2w.trans (hA2.mono h2w.size)
   have H4:=hide h4w
   have Es:=hide h4w.size
   have hlen:=hal.len
   have Du:Hid ((cm.length+1)*160<=140737488355328):=by
    have h9:=uh vg
    have h8:=uh HL
    refine hide ?_
    rw[hlen.1,List.length_take]
    omega
   obtain⟨c,hcv⟩:∃c:Raw 7,c.1=[.string k.name,.slice i1 k.ins.length h1,.slice i2 k.outs.length h2,.slice i3 k.ay.length h3,.slice i4 k.aj.length h4,.slice i5 k.insts.length h5,.slice o6 n6 p6]:=⟨⟨[.string k.name,.slice i1 k.ins.length h1,.slice i2 k.outs.length h2,.slice i3 k.ay.length h3,.slice i4 k.aj.length h4,.slice i5 k.insts.length h5,.slice o6 n6 p6],by simp,by intro u hu;simp only[List.mem_cons,List.not_mem_nil,or_false] at hu;rcases hu with rfl|rfl|rfl|rfl|rfl|rfl|rfl<;>rfl⟩,rfl⟩
   have J9:=hide hcv
   have afo:∀bs,(∀b,b∈bs->b∈subs[q])->Fr bs wr w1:=fun bs hb b hbb=>h1r.block b (Nat.lt_of_lt_of_le (hsl b (List.mem_flatten.2 ⟨_,List.getElem_mem ay8,hb b hbb⟩)) (uh HB).size)
   have hs9:∀x,x∈atf.flatten->x<w.heap.size:=fun x hx=>ace x (jr.2 (Nat.le_trans (jr.1 hx) (ct9 x)))
   have hTN:oh w1 c.1 (Jf k tt) (b1++b2++b3++b4++b5++(gu (.slice o6 n6 p6)++atf.flatten)):=by
    rw[hcv]
    refine⟨_,_,_,_,_,_,b1,b2,b3,b4,b5,_,rfl,hnm,g1.fr (afo _ (fun b hb=>by rw[hbs];simp[hb])),g2.fr (afo _ (fun b hb=>by rw[hbs];simp[hb])),g3.fr (afo _ (fun b hb=>by rw[hbs];simp[hb])),g4.fr (afo _ (fun b hb=>by rw[hbs];simp[hb])),g5.fr (afo _ (fun b hb=>by rw[hbs];simp[hb])),⟨cs9,atf,o9.low (Nat.zero_le _),?_,a9.mono (fun c x s _ _ hs h9=>I4 _ _ _ _ _ h9 (fun b hb=>jc.block b (Nat.lt_of_lt_of_le (hs9 b (List.mem_flatten.2 ⟨s,hs,hb⟩)) (Nat.le_trans (uh HB).size hA.size)))),rfl⟩,rfl⟩
    have h9:=a9.len
    have h8:=(ap8 (tt.depth+1) tt hw1).2
    show cs9.length*104<=_
    omega
   have Il:Hid (∀v' w5,dw uj w5 w.heap.size v' (cm++[c])->(w1.alloc (.cells #[.string k.name,.slice i1 k.ins.length h1,.slice i2 k.outs.length h2,.slice i3 k.ay.length h3,.slice i4 k.aj.length h4,.slice i5 k.insts.length h5,.slice o6 n6 p6] 43)).grownBy w5 u5.ownBlock->(∀b,v'.ownBlock=some b->u5.ownBlock=some b∨(w1.alloc (.cells #[.string k.name,.slice i1 k.ins.length h1,.slice i2 k.outs.length h2,.slice i3 k.ay.length h3,.slice i4 k.aj.length h4,.slice i5 k.insts.length h5,.slice o6 n6 p6] 43)).heap.size<=b)->MF w ks ts subs (q+1) v' w5):=by
    refine hide (fun v' w5 k1 k2 k3=>MF.snoc cm sm hoo hal hcn ay8 hsl (uh HB).size h1r hA2 (v6:=.slice o6 n6 p6) hTN hkz (fun x=>?_) (fun x hx=>?_) k1 k2 k3)
    ·have h9:=ct9 x
     rw[hbs,hb6]
     simp only[List.count_append]
     omega
    ·have h9:=World.ownsRow.lt o9 x (iq.1 hx)
     exact⟨Nat.le_trans hA.size h9.1,h9.2⟩
   clear hcv hTN hs9 afo hoo hal hcn hnm g1 g2 g3 g4 g5 hbs hb6 hA hkz ace hsl hw1 hw3 h1r h2w hA2 h4w hlen o9 a9 ct9 jc hn6 c0 c1 c2 c3 c4 c5 c6
   go_wp2_with (at_builtin;go_must (refine l9 uj _ rfl _ _ rfl w.heap.size _ cm rfl (uh Ee) w1.heap.size c rfl (fun j u hu=>by rw[World.cell?_alloc_at _ _ _ _ rfl];have hu':c.1[j]?=some u:=hu;rw[uh J9] at hu';simpa using hu') (uh Du) (uh Es) ?_))
   intro v' w5 Bh hg5 Eh
   have Nw:Hid (MF w ks ts subs (q+1) v' w5):=hide (uh Il v' w5 Bh hg5 (by simpa using Eh))
   have zo:Hid (Below w.heap.size w w5):=hide ((uh Ee).grown (uh H4) hg5 (uh Es) (Nat.le_refl _))
   clear Bh hg5 Eh
   go_wp2
   go_roundg (L-(q+1))
   case measure=>have:=uh HG;omega
   case rel=>exact⟨q+1,by omega,rfl,by go_num,Nw,zo⟩
  ·have zu:Hid (PO (.returned u5) wr):=by
    have e:q=ks.length:=by have h9:=uh HL;have h8:=uh HAL;omega
    rw[uh Fh]
    refine hide ⟨u5,rfl,?_,uh HB⟩
    rw[←e]
    exact uh HO
   have hqI:¬(q:Int)<(L:Int):=by omega
   obtain⟨cm,sm,hoo,_,_⟩:=uh HO
   obtain⟨oa,oc,hov⟩:=hoo.slice
   clear hoo
   go_wp2
   rw[←hov]
   exact uh zu
theorem MF.row {w wr:World} {ks:List ak} {ts:List BF} {subs:List (List Nat)} {v:Value} (h:MF w ks ts subs ks.length v wr) (htl:ts.length=ks.length) (hbt:ks.length*160<=140737488355328) (hnd:subs.flatten.Nodup) (B:Nat) (hB:B<=w.heap.size) (hsb:∀b,b∈subs.flatten->B<=b):∃bs,uf uj oh B wr v (List.zipWith Jf ks ts) bs:=by
 obtain⟨cm,sm,hoo,hal,hcn⟩:=h
 rw[List.take_of_length_le (by rw[List.length_zipWith];omega)] at hal
 have hl:=hal.len
 rw[List.length_zipWith] at hl
 have ay9:∀x,(gu v).count x+sm.flatten.count x<=if x<w.heap.size then subs.flatten.count x else 1:=fun x=>by have:=hcn x;omega
 refine⟨_,cm,sm,hoo.low hB,?_,hal,rfl,Jt.2 (fun x=>?_),fun b hb=>⟨?_,?_⟩⟩
 ·show cm.length*160<=_
  omega
 ·have h1:=ay9 x
  have h2:=Jt.1 hnd x
  rw[List.count_append]
  split at h1<;>omega
 ·have h1:=ay9 b
  have h2:=jr.1 hb
  rw[List.count_append] at h2
  by_cases hx:b<w.heap.size
  ·rw[if_pos hx] at h1
   exact hsb b (jr.2 (by omega))
  ·omega
 ·rcases List.mem_append.1 hb with h9|h9
  ·exact(World.ownsRow.lt hoo b (iq.1 h9)).2
  ·exact(afn hal).lt b h9
def MaP (B:Nat) (ks:List ak) (w:World) (e:Ending) (w':World):Prop:=∃v bs,e=.returned (.agg #[v])∧uf uj oh B w' v ks bs∧Below w.heap.size w w'
theorem uf.frC {B:Nat} {w w':World} {v:Value} {ks:List ak} {bs:List Nat} (h:uf uj oh B w v ks bs) (hf:Fr bs w w') (hs:w.heap.size<=w'.heap.size):uf uj oh B w' v ks bs:=by
 obtain⟨css,subs,h1,h2,h3,rfl,h5,h6⟩:=h
 exact⟨css,subs,h1.L9 hf.left,h2,h3.mono (fun c x s _ _ hs9 h9=>zx _ _ _ _ _ h9 (fun b hb=>hf b (List.mem_append_right _ (List.mem_flatten.2 ⟨s,hs9,hb⟩)))),rfl,h5,fun b hb=>⟨(h6 b hb).1,Nat.lt_of_lt_of_le (h6 b hb).2 hs⟩⟩
theorem uf.ar9 {B B2:Nat} {w:World} {v:Value} {ks:List ak} {bs:List Nat} (h:uf uj oh B w v ks bs) (hb:B2<=B):uf uj oh B2 w v ks bs:=by
 obtain⟨css,subs,h1,h2,h3,rfl,h5,h6⟩:=h
 exact⟨css,subs,h1.low hb,h2,h3,rfl,h5,fun b jc=>⟨Nat.le_trans hb (h6 b jc).1,(h6 b jc).2⟩⟩
theorem aff (ks:List ak) (v:Value) (w:World) (h:bf 7 160 ni 0 w v ks):Calls Tryz.prog 30 #[.agg #[v]] w (MaP w.heap.size ks w):=by
 obtain⟨a,c,hv⟩:=h.shape
 subst hv
 obtain⟨PO,Af⟩:∃PO:Ending->World->Prop,PO=MaP w.heap.size ks w:=⟨_,rfl⟩
 rw[←Af]
 have Fh:=hide Af
 clear Af
 obtain⟨wA,hwA⟩:∃z,z=(w.alloc (.cells #[.slice a ks.length c] 28)).alloc (.cells #[.slice none 0 0] 28):=⟨_,rfl⟩
 have hA:Below w.heap.size w wA:=by rw[hwA];exact((Below.refl _ _).alloc (Nat.le_refl _) _).alloc (by simp) _
 have bR:au wA (w.heap.size+1) 28 #[.slice none 0 0]:=by rw[hwA];exact Bq (by simp)
 have HC:Hid (Calls Tryz.prog 59 #[.slice a ks.length c,.func (.func 60) #[] #[]] wA (fun e w1=>∃v9,e=.returned v9∧(∃x y z,v9=.slice x y z)∧Hid (au w1 (w.heap.size+1) 28 #[.slice none 0 0]∧(∃bs,uf uj oh w.heap.size w1 v9 ks bs)∧Below w.heap.size w w1))):=by
  refine hide ((akk ks _ wA (h.stays jm hA)).mono ?_)
  rintro e w1 ⟨v9,bs,rfl,hm,hb⟩
  obtain⟨x,y,hv⟩:=hm.slice
  exact⟨v9,rfl,⟨_,_,_,hv⟩,hide ⟨bR.below hb bR.lt,⟨bs,hm.ar9 hA.size⟩,hA.trans (hb.mono hA.size)⟩⟩
 rw[hwA] at HC
 clear h hA bR hwA
 go_enter Tryz.func30,Tryz.ntmps30
 go_wp2_with fail
 refine(uh HC).mono ?_
 rintro e w1 ⟨v9,rfl,⟨x9,y9,z9,rfl⟩,HM⟩
 have r0:=(uh HM).1.cell (i:=0) (v:=.slice none 0 0) rfl
 have z0:=(uh HM).1.free 0
 have zu:Hid (PO (.returned (.agg #[.slice x9 y9 z9])) (w1.setCell ⟨w.heap.size+1,0,none⟩ (.slice x9 y9 z9))∧(w1.setCell ⟨w.heap.size+1,0,none⟩ (.slice x9 y9 z9)).cell? ⟨w.heap.size+1,0,none⟩=some (.slice x9 y9 z9)):=by
  obtain⟨hbx,⟨bs,hmr⟩,hbw⟩:=uh HM
  rw[uh Fh]
  refine hide ⟨⟨_,bs,rfl,hmr.frC (fun b hb=>Below.heap_setCell _ _ _ _ (fun e9=>au.Tn hbx (C9.typ zy hmr.rowT) (by decide) (by simp only at e9;first|(rw[←e9];exact hb)|(rw[e9];exact hb)))) (by simp[World.setCell]),hbw.setCell (Nat.le_succ _) _⟩,(hbx.set 0 (.slice x9 y9 z9)).cell (i:=0) rfl⟩
 clear HM
 go_wp2
 have f0:=(uh zu).2
 exact bodyPost_ret (v:=.agg #[.slice x9 y9 z9]) (by simp[results,Tryz.results30,go_sem,f0]) rfl (uh zu).1
theorem ahf (B:Nat) (ks:List ak) (ts:List BF) (v:Value) (bs:List Nat) (w:World) (h:uf uj oh B w v ks bs) (hB:B<=w.heap.size) (htl:ts.length=ks.length) (hts:∀i (h1:i<ts.length) (h2:i<ks.length),ts[i].wf∧ts[i].flat=ks[i].body∧ts[i].flat.length<=1000000):Calls Tryz.prog 31 #[.agg #[v]] w (MaP B (List.zipWith Jf ks ts) w):=by
 obtain⟨a,c,hv⟩:=h.slice
 subst hv
 obtain⟨PO,Af⟩:∃PO:Ending->World->Prop,PO=MaP B (List.zipWith Jf ks ts) w:=⟨_,rfl⟩
 rw[←Af]
 have Fh:=hide Af
 clear Af
 obtain⟨wA,hwA⟩:∃z,z=(w.alloc (.cells #[.slice a ks.length c] 28)).alloc (.cells #[.slice none 0 0] 28):=⟨_,rfl⟩
 have hA:Below w.heap.size w wA:=by rw[hwA];exact((Below.refl _ _).alloc (Nat.le_refl _) _).alloc (by simp) _
 have bR:au wA (w.heap.size+1) 28 #[.slice none 0 0]:=by rw[hwA];exact Bq (by simp)
 have HC:Hid (Calls Tryz.prog 59 #[.slice a ks.length c,.func (.func 61) #[] #[]] wA (fun e w1=>∃v9,e=.returned v9∧(∃x y z,v9=.slice x y z)∧Hid (au w1 (w.heap.size+1) 28 #[.slice none 0 0]∧(∃bs,uf uj oh B w1 v9 (List.zipWith Jf ks ts) bs)∧Below w.heap.size w w1))):=by
  obtain⟨css,subs,h1,h2,h3,rfl,h5,h6⟩:=h.frC (fun b hb=>hA.block b (h.choose_spec.choose_spec.2.2.2.2.2 b hb).2) hA.size
  have hl:=h3.len
  have hnd:=(Ij h5).2.1
  refine hide ((ank wA _ css ks ts subs (h1.low (Nat.zero_le _)) h2 h3 hnd htl hts).mono ?_)
  rintro e w1 ⟨v9,rfl,hmf,hb⟩
  have h2':css.length*160<=140737488355328:=h2
  obtain⟨bs9,hm⟩:=hmf.row htl (by omega) hnd B (Nat.le_trans hB hA.size) (fun b jc=>(h6 b (List.mem_append_right _ jc)).1)
  obtain⟨x,y,hv⟩:=hm.slice
  exact⟨v9,rfl,⟨_,_,_,hv⟩,hide ⟨bR.below hb bR.lt,⟨bs9,hm⟩,hA.trans (hb.mono hA.size)⟩⟩
 rw[hwA] at HC
 clear h hA bR hwA hts htl
 go_enter Tryz.func31,Tryz.ntmps31
 go_wp2_with fail
 refine(uh HC).mono ?_
 rintro e w1 ⟨v9,rfl,⟨x9,y9,z9,rfl⟩,HM⟩
 have r0:=(uh HM).1.cell (i:=0) (v:=.slice none 0 0) rfl
 have z0:=(uh HM).1.free 0
 have zu:Hid (PO (.returned (.agg #[.slice x9 y9 z9])) (w1.setCell ⟨w.heap.size+1,0,none⟩ (.slice x9 y9 z9))∧(w1.setCell ⟨w.heap.size+1,0,none⟩ (.slice x9 y9 z9)).cell? ⟨w.heap.size+1,0,none⟩=some (.slice x9 y9 z9)):=by
  obtain⟨hbx,⟨bs,hmr⟩,hbw⟩:=uh HM
  rw[uh Fh]
  refine hide ⟨⟨_,bs,rfl,hmr.frC (fun b hb=>Below.heap_setCell _ _ _ _ (fun e9=>au.Tn hbx (C9.typ zy hmr.rowT) (by decide) (by simp only at e9;first|(rw[←e9];exact hb)|(rw[e9];exact hb)))) (by simp[World.setCell]),hbw.setCell (Nat.le_succ _) _⟩,(hbx.set 0 (.slice x9 y9 z9)).cell (i:=0) rfl⟩
 clear HM
 go_wp2
 have f0:=(uh zu).2
 exact bodyPost_ret (v:=.agg #[.slice x9 y9 z9]) (by simp[results,Tryz.results31,go_sem,f0]) rfl (uh zu).1
end Go.Proofs.YtlcgnbcgmljpaaaGreat
