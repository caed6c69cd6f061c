import Derived.Test.YtlcgnbcgmljpaaaGreatData
import Derived.Test.YtlcgnbcgmljpaaaGreatProg
import Derived.WalkLawsBesides
import Derived.Deep.LoopGhost
namespace Go.Proofs.YtlcgnbcgmljpaaaGreat
open Go.RowKit
set_option linter.unusedSimpArgs false
set_option linter.unusedVariables false
set_option maxHeartbeats 400000 in
theorem ag8 (xs:List Int) (v:Value) (left:Int) (w:World) (hv:bf 1 8 yu 0 w v xs) (hl:0<=left) (hl2:left<=1048576) :
  Calls Tryz.prog 44 #[v,.int .i64 left] w (J4 w left xs.length):=by
 obtain⟨a,cap,rfl,_,hn,hx⟩:=hv
 unfold Len at hn
 clear hx
 by_cases h:left-xs.length<0
 all_goals
  go_enter Tryz.func44,Tryz.ntmps44
  go_wp2
  go_ret
 ·exact⟨_,rfl,Or.inl rfl,Below.refl _ _⟩
 ·exact⟨_,rfl,Or.inr ⟨by omega,by omega⟩,Below.refl _ _⟩
theorem arn (c:gy) (left:Int) (w:World) (hs:Len c.name.size) (hl:0<=left) (hl2:left<=1048576) :
  Calls Tryz.prog 70 #[.agg #[.string c.name,.int .i64 c.type],.int .i64 left] w (J4 w left (Xv c)):=by
 obtain⟨s,on⟩:=c
 unfold Len at hs
 simp only at hs
 by_cases h:left-s.size<0
 all_goals
  go_enter Tryz.func70,Tryz.ntmps70
  go_wp2
  go_ret
 ·exact⟨_,rfl,Or.inl rfl,(Below.refl _ _).alloc (Nat.le_refl _) _⟩
 ·exact⟨_,rfl,Or.inr ⟨by omega,by simp only[Xv];omega⟩,(Below.refl _ _).alloc (Nat.le_refl _) _⟩
set_option maxHeartbeats 400000 in
theorem ae8 (xs:List gy) (v:Value) (left:Int) (w:World) (hv:bf 2 24 xk 0 w v xs) (hl:0<=left) (hl2:left<=1048576) :
  Calls Tryz.prog 42 #[v,.int .i64 left] w (J4 w left (A8 Xv xs)):=by
 obtain⟨a,cap,rfl,_,hn,hx⟩:=hv
 unfold Len at hn
 have HX:=hide hx
 clear hx
 by_cases h:left-xs.length<0
 ·go_enter Tryz.func42,Tryz.ntmps42
  go_wp2
  go_ret
  exact⟨_,rfl,Or.inl rfl,Below.refl _ _⟩
 ·go_enter Tryz.func42,Tryz.ntmps42
  go_wp2
  go_loopg [1,5] xs.length (fun g l i wr=>∃(k:Nat) (r:Int),k<=xs.length∧g=xs.length-k∧i=.int .i64 k∧l=.int .i64 r∧0<=r∧r<=left-xs.length-qo Xv xs k∧Below w.heap.size w wr)
  case atStart=>exact⟨0,left-xs.length,Nat.zero_le _,by omega,rfl,rfl,by omega,by rw[En];omega,Below.refl _ _⟩
  case round =>
   obtain⟨k,r,hk,hg,rfl,rfl,hr0,hr1,hbl⟩:=hrel
   by_cases hlt:k<xs.length
   ·obtain⟨b,o,cs,rfl,_,hb,hcs,hc,hR⟩:=uh HX k hlt
    have hR:=jq.stays _ _ _ _ _ hbl hR
    have hc:∀j (hj:j<cs.length),wr.cell? ⟨b,o+k*2+j,none⟩=some cs[j]:=fun j hj=>by rw[hbl.cell (p:=⟨b,_,none⟩) hb];exact hc j hj
    obtain⟨rfl,hsn,hty⟩:=hR
    have c0:=hc 0 (by simp)
    have c1:=hc 1 (by simp)
    simp only[Nat.mul_one,Nat.add_zero,List.getElem_cons_zero,List.getElem_cons_succ] at c0 c1
    have hw:=Dx Xv xs k hlt
    have HW:=hide hw
    have HG:=hide hg
    clear hw hg hc hcs
    go_wp2_with fail
    refine(arn _ _ _ hsn hr0 (by omega)).mono ?_
    rintro e w1 ⟨r',rfl,hr|⟨h0,h1⟩,hb1⟩
    ·subst hr
     go_wp2
     go_ret
     exact⟨_,rfl,Or.inl rfl,hbl.trans (hb1.mono hbl.size)⟩
    ·go_wp2
     go_roundg (xs.length-(k+1))
     case measure=>have:=uh HG;omega
     case rel=>exact⟨k+1,r',by omega,rfl,by go_num,rfl,h0,by rw[uh HW];omega,hbl.trans (hb1.mono hbl.size)⟩
   ·go_wp2
    go_ret
    have e:k=xs.length:=by omega
    subst e
    exact⟨_,rfl,Or.inr ⟨hr0,by rw[←Vx];omega⟩,hbl⟩
set_option maxHeartbeats 1000000 in
theorem avc (x:dh) (a1 a2 a3:Value) (left:Int) (w:World) (hs:Len x.name.size) (h1:bf 1 16 uz 0 w a1 x.outs) (h2:bf 3 32 tu 0 w a2 x.code) (h3:bf 1 24 vw 0 w a3 x.args) (hl:0<=left) (hl2:left<=1048576) :
  Calls Tryz.prog 71 #[.agg #[.int .i64 x.kind,.string x.name,.int .i64 x.at_,a1,a2,a3],.int .i64 left] w (J4 w left (aa0 x)):=by
 obtain⟨kd,s,at0,outs,code,args⟩:=x
 unfold Len at hs
 simp only at hs h1 h2 h3
 have H1:=hide h1
 clear h1
 have H2:=hide h2
 clear h2
 have H3:=hide h3
 clear h3
 by_cases hneg:left-s.size<0
 ·go_enter Tryz.func71,Tryz.ntmps71
  go_wp2
  go_ret
  exact⟨_,rfl,Or.inl rfl,(Below.refl _ _).alloc (Nat.le_refl _) _⟩
 go_enter Tryz.func71,Tryz.ntmps71
 go_wp2_with fail
 refine(aaz outs _ _ _ ?_ ?_ ?_).mono ?_
 ·exact(uh H1).stays lu ((Below.refl _ _).alloc (Nat.le_refl _) _)
 ·omega
 ·omega
 rintro e w1 ⟨r1,rfl,hr|⟨p1,q1⟩,hb1⟩
 ·subst hr
  go_wp2
  go_ret
  exact⟨_,rfl,Or.inl rfl,((Below.refl _ _).alloc (Nat.le_refl _) _).trans (hb1.mono (by simp))⟩
 obtain⟨hc1,hf1⟩:=Bo hb1
 have B1:Below w.heap.size w w1:=((Below.refl _ _).alloc (Nat.le_refl _) _).trans (hb1.mono (by simp))
 have hz1:w.heap.size<w1.heap.size:=by have:=hb1.size;first|omega|(simp at this;omega)
 clear hb1
 go_wp2_with fail
 refine(ad5 code _ _ _ ?_ ?_ ?_).mono ?_
 ·exact(uh H2).stays og B1
 ·omega
 ·omega
 rintro e w2 ⟨r2,rfl,hr|⟨p2,q2⟩,hb2⟩
 ·subst hr
  go_wp2
  go_ret
  exact⟨_,rfl,Or.inl rfl,B1.trans (hb2.mono B1.size)⟩
 obtain⟨hc2,hf2⟩:=Bo hb2
 have B2:Below w.heap.size w w2:=B1.trans (hb2.mono B1.size)
 have hz2:w.heap.size<w2.heap.size:=by have:=hb2.size;first|omega|(simp at this;omega)
 clear hb2
 go_wp2_with fail
 refine(akm args _ _ _ ?_ ?_ ?_).mono ?_
 ·exact(uh H3).stays xq B2
 ·omega
 ·omega
 rintro e w3 ⟨r3,rfl,hr|⟨p3,q3⟩,hb3⟩
 ·subst hr
  go_wp2
  go_ret
  exact⟨_,rfl,Or.inl rfl,B2.trans (hb3.mono B2.size)⟩
 go_wp2
 go_ret
 exact⟨_,rfl,Or.inr ⟨p3,by simp only[aa0];omega⟩,B2.trans (hb3.mono B2.size)⟩
set_option maxHeartbeats 400000 in
theorem aro (xs:List dh) (v:Value) (left:Int) (w:World) (hv:bf 6 104 Ec 0 w v xs) (hl:0<=left) (hl2:left<=1048576) :
  Calls Tryz.prog 45 #[v,.int .i64 left] w (J4 w left (A8 aa0 xs)):=by
 obtain⟨a,cap,rfl,_,hn,hx⟩:=hv
 unfold Len at hn
 have HX:=hide hx
 clear hx
 by_cases h:left-xs.length<0
 ·go_enter Tryz.func45,Tryz.ntmps45
  go_wp2
  go_ret
  exact⟨_,rfl,Or.inl rfl,Below.refl _ _⟩
 ·go_enter Tryz.func45,Tryz.ntmps45
  go_wp2
  go_loopg [1,5] xs.length (fun g l i wr=>∃(k:Nat) (r:Int),k<=xs.length∧g=xs.length-k∧i=.int .i64 k∧l=.int .i64 r∧0<=r∧r<=left-xs.length-qo aa0 xs k∧Below w.heap.size w wr)
  case atStart=>exact⟨0,left-xs.length,Nat.zero_le _,by omega,rfl,rfl,by omega,by rw[En];omega,Below.refl _ _⟩
  case round =>
   obtain⟨k,r,hk,hg,rfl,rfl,hr0,hr1,hbl⟩:=hrel
   by_cases hlt:k<xs.length
   ·obtain⟨b,o,cs,rfl,_,hb,hcs,hc,hR⟩:=uh HX k hlt
    have hR:=xu.stays _ _ _ _ _ hbl hR
    have hc:∀j (hj:j<cs.length),wr.cell? ⟨b,o+k*6+j,none⟩=some cs[j]:=fun j hj=>by rw[hbl.cell (p:=⟨b,_,none⟩) hb];exact hc j hj
    obtain⟨so,sc,sa,rfl,hsn,hk1,hk2,g1,g2,g3⟩:=hR
    have G1:=hide g1
    clear g1
    have G2:=hide g2
    clear g2
    have G3:=hide g3
    clear g3
    have c0:=hc 0 (by simp)
    have c1:=hc 1 (by simp)
    have c2:=hc 2 (by simp)
    have c3:=hc 3 (by simp)
    have c4:=hc 4 (by simp)
    have c5:=hc 5 (by simp)
    simp only[Nat.mul_one,Nat.add_zero,List.getElem_cons_zero,List.getElem_cons_succ] at c0 c1 c2 c3 c4 c5
    have hw:=Dx aa0 xs k hlt
    have HW:=hide hw
    have HG:=hide hg
    clear hw hg hc hcs
    go_wp2_with fail
    refine(avc _ _ _ _ _ _ hsn (uh G1) (uh G2) (uh G3) hr0 (by omega)).mono ?_
    rintro e w1 ⟨r',rfl,hr|⟨h0,h1⟩,hb1⟩
    ·subst hr
     go_wp2
     go_ret
     exact⟨_,rfl,Or.inl rfl,hbl.trans (hb1.mono hbl.size)⟩
    ·go_wp2
     go_roundg (xs.length-(k+1))
     case measure=>have:=uh HG;omega
     case rel=>exact⟨k+1,r',by omega,rfl,by go_num,rfl,h0,by rw[uh HW];omega,hbl.trans (hb1.mono hbl.size)⟩
   ·go_wp2
    go_ret
    have e:k=xs.length:=by omega
    subst e
    exact⟨_,rfl,Or.inr ⟨hr0,by rw[←Vx];omega⟩,hbl⟩
set_option maxHeartbeats 1000000 in
theorem ao6 (x:ak) (a1 a2 a3 a4 a5 a6:Value) (left:Int) (w:World) (hs:Len x.name.size) (h1:bf 2 24 xk 0 w a1 x.ins) (h2:bf 2 24 xk 0 w a2 x.outs) (h3:bf 1 16 uz 0 w a3 x.ay) (h4:bf 1 8 yu 0 w a4 x.aj) (h5:bf 1 8 yu 0 w a5 x.insts) (h6:bf 6 104 Ec 0 w a6 x.body) (hl:0<=left) (hl2:left<=1048576) :
  Calls Tryz.prog 22 #[.agg #[.string x.name,a1,a2,a3,a4,a5,a6],.int .i64 left] w (J4 w left (Jc x)):=by
 obtain⟨s,ins,outs,ay,aj,insts,body⟩:=x
 unfold Len at hs
 simp only at hs h1 h2 h3 h4 h5 h6
 have H1:=hide h1
 clear h1
 have H2:=hide h2
 clear h2
 have H3:=hide h3
 clear h3
 have H4:=hide h4
 clear h4
 have H5:=hide h5
 clear h5
 have H6:=hide h6
 clear h6
 by_cases hneg:left-s.size<0
 ·go_enter Tryz.func22,Tryz.ntmps22
  go_wp2
  go_ret
  exact⟨_,rfl,Or.inl rfl,(Below.refl _ _).alloc (Nat.le_refl _) _⟩
 go_enter Tryz.func22,Tryz.ntmps22
 go_wp2_with fail
 refine(ae8 ins _ _ _ ?_ ?_ ?_).mono ?_
 ·exact(uh H1).stays jq ((Below.refl _ _).alloc (Nat.le_refl _) _)
 ·omega
 ·omega
 rintro e w1 ⟨r1,rfl,hr|⟨p1,q1⟩,hb1⟩
 ·subst hr
  go_wp2
  go_ret
  exact⟨_,rfl,Or.inl rfl,((Below.refl _ _).alloc (Nat.le_refl _) _).trans (hb1.mono (by simp))⟩
 obtain⟨hc1,hf1⟩:=Bo hb1
 have B1:Below w.heap.size w w1:=((Below.refl _ _).alloc (Nat.le_refl _) _).trans (hb1.mono (by simp))
 have hz1:w.heap.size<w1.heap.size:=by have:=hb1.size;first|omega|(simp at this;omega)
 clear hb1
 go_wp2_with fail
 refine(ae8 outs _ _ _ ?_ ?_ ?_).mono ?_
 ·exact(uh H2).stays jq B1
 ·omega
 ·omega
 rintro e w2 ⟨r2,rfl,hr|⟨p2,q2⟩,hb2⟩
 ·subst hr
  go_wp2
  go_ret
  exact⟨_,rfl,Or.inl rfl,B1.trans (hb2.mono B1.size)⟩
 obtain⟨hc2,hf2⟩:=Bo hb2
 have B2:Below w.heap.size w w2:=B1.trans (hb2.mono B1.size)
 have hz2:w.heap.size<w2.heap.size:=by have:=hb2.size;first|omega|(simp at this;omega)
 clear hb2
 go_wp2_with fail
 refine(aaz ay _ _ _ ?_ ?_ ?_).mono ?_
 ·exact(uh H3).stays lu B2
 ·omega
 ·omega
 rintro e w3 ⟨r3,rfl,hr|⟨p3,q3⟩,hb3⟩
 ·subst hr
  go_wp2
  go_ret
  exact⟨_,rfl,Or.inl rfl,B2.trans (hb3.mono B2.size)⟩
 obtain⟨hc3,hf3⟩:=Bo hb3
 have B3:Below w.heap.size w w3:=B2.trans (hb3.mono B2.size)
 have hz3:w.heap.size<w3.heap.size:=by have:=hb3.size;first|omega|(simp at this;omega)
 clear hb3
 go_wp2_with fail
 refine(ag8 aj _ _ _ ?_ ?_ ?_).mono ?_
 ·exact(uh H4).stays jy B3
 ·omega
 ·omega
 rintro e w4 ⟨r4,rfl,hr|⟨p4,q4⟩,hb4⟩
 ·subst hr
  go_wp2
  go_ret
  exact⟨_,rfl,Or.inl rfl,B3.trans (hb4.mono B3.size)⟩
 obtain⟨hc4,hf4⟩:=Bo hb4
 have B4:Below w.heap.size w w4:=B3.trans (hb4.mono B3.size)
 have hz4:w.heap.size<w4.heap.size:=by have:=hb4.size;first|omega|(simp at this;omega)
 clear hb4
 go_wp2_with fail
 refine(ag8 insts _ _ _ ?_ ?_ ?_).mono ?_
 ·exact(uh H5).stays jy B4
 ·omega
 ·omega
 rintro e w5 ⟨r5,rfl,hr|⟨p5,q5⟩,hb5⟩
 ·subst hr
  go_wp2
  go_ret
  exact⟨_,rfl,Or.inl rfl,B4.trans (hb5.mono B4.size)⟩
 obtain⟨hc5,hf5⟩:=Bo hb5
 have B5:Below w.heap.size w w5:=B4.trans (hb5.mono B4.size)
 have hz5:w.heap.size<w5.heap.size:=by have:=hb5.size;first|omega|(simp at this;omega)
 clear hb5
 go_wp2_with fail
 refine(aro body _ _ _ ?_ ?_ ?_).mono ?_
 ·exact(uh H6).stays xu B5
 ·omega
 ·omega
 rintro e w6 ⟨r6,rfl,hr|⟨p6,q6⟩,hb6⟩
 ·subst hr
  go_wp2
  go_ret
  exact⟨_,rfl,Or.inl rfl,B5.trans (hb6.mono B5.size)⟩
 go_wp2
 go_ret
 exact⟨_,rfl,Or.inr ⟨p6,by simp only[Jc];omega⟩,B5.trans (hb6.mono B5.size)⟩
set_option maxHeartbeats 400000 in
theorem ak7 (xs:List ak) (v:Value) (left:Int) (w:World) (hv:bf 7 160 ni 0 w v xs) (hl:0<=left) (hl2:left<=1048576) :
  Calls Tryz.prog 11 #[v,.int .i64 left] w (J4 w left (A8 Jc xs)):=by
 obtain⟨a,cap,rfl,_,hn,hx⟩:=hv
 unfold Len at hn
 have HX:=hide hx
 clear hx
 by_cases h:left-xs.length<0
 ·go_enter Tryz.func11,Tryz.ntmps11
  go_wp2
  go_ret
  exact⟨_,rfl,Or.inl rfl,Below.refl _ _⟩
 ·go_enter Tryz.func11,Tryz.ntmps11
  go_wp2
  go_loopg [1,5] xs.length (fun g l i wr=>∃(k:Nat) (r:Int),k<=xs.length∧g=xs.length-k∧i=.int .i64 k∧l=.int .i64 r∧0<=r∧r<=left-xs.length-qo Jc xs k∧Below w.heap.size w wr)
  case atStart=>exact⟨0,left-xs.length,Nat.zero_le _,by omega,rfl,rfl,by omega,by rw[En];omega,Below.refl _ _⟩
  case round =>
   obtain⟨k,r,hk,hg,rfl,rfl,hr0,hr1,hbl⟩:=hrel
   by_cases hlt:k<xs.length
   ·obtain⟨b,o,cs,rfl,_,hb,hcs,hc,hR⟩:=uh HX k hlt
    have hR:=jm.stays _ _ _ _ _ hbl hR
    have hc:∀j (hj:j<cs.length),wr.cell? ⟨b,o+k*7+j,none⟩=some cs[j]:=fun j hj=>by rw[hbl.cell (p:=⟨b,_,none⟩) hb];exact hc j hj
    obtain⟨ki,ko,kl,km,kn,kb,rfl,hsn,g1,g2,g3,g4,g5,g6⟩:=hR
    have G1:=hide g1
    clear g1
    have G2:=hide g2
    clear g2
    have G3:=hide g3
    clear g3
    have G4:=hide g4
    clear g4
    have G5:=hide g5
    clear g5
    have G6:=hide g6
    clear g6
    have c0:=hc 0 (by simp)
    have c1:=hc 1 (by simp)
    have c2:=hc 2 (by simp)
    have c3:=hc 3 (by simp)
    have c4:=hc 4 (by simp)
    have c5:=hc 5 (by simp)
    have c6:=hc 6 (by simp)
    simp only[Nat.mul_one,Nat.add_zero,List.getElem_cons_zero,List.getElem_cons_succ] at c0 c1 c2 c3 c4 c5 c6
    have hw:=Dx Jc xs k hlt
    have HW:=hide hw
    have HG:=hide hg
    clear hw hg hc hcs
    go_wp2_with fail
    refine(ao6 _ _ _ _ _ _ _ _ _ hsn (uh G1) (uh G2) (uh G3) (uh G4) (uh G5) (uh G6) hr0 (by omega)).mono ?_
    rintro e w1 ⟨r',rfl,hr|⟨h0,h1⟩,hb1⟩
    ·subst hr
     go_wp2
     go_ret
     exact⟨_,rfl,Or.inl rfl,hbl.trans (hb1.mono hbl.size)⟩
    ·go_wp2
     go_roundg (xs.length-(k+1))
     case measure=>have:=uh HG;omega
     case rel=>exact⟨k+1,r',by omega,rfl,by go_num,rfl,h0,by rw[uh HW];omega,hbl.trans (hb1.mono hbl.size)⟩
   ·go_wp2
    go_ret
    have e:k=xs.length:=by omega
    subst e
    exact⟨_,rfl,Or.inr ⟨hr0,by rw[←Vx];omega⟩,hbl⟩
set_option maxHeartbeats 400000 in
theorem ajd (ks:List ak) (v:Value) (left:Int) (w:World) (h1:bf 7 160 ni 0 w v ks) (hl:0<=left) (hl2:left<=1048576) :
  Calls Tryz.prog 4 #[.agg #[v],.int .i64 left] w (J4 w left (A8 Jc ks)):=by
 have H1:=hide h1
 clear h1
 go_enter Tryz.func4,Tryz.ntmps4
 go_wp2_with fail
 refine(ak7 ks _ _ _ ?_ ?_ ?_).mono ?_
 ·exact(uh H1).stays jm ((Below.refl _ _).alloc (Nat.le_refl _) _)
 ·omega
 ·omega
 rintro e w1 ⟨r1,rfl,hr|⟨p1,q1⟩,hb1⟩
 ·subst hr
  go_wp2
  go_ret
  exact⟨_,rfl,Or.inl rfl,((Below.refl _ _).alloc (Nat.le_refl _) _).trans (hb1.mono (by simp))⟩
 ·go_wp2
  go_ret
  exact⟨_,rfl,Or.inr ⟨p1,by omega⟩,((Below.refl _ _).alloc (Nat.le_refl _) _).trans (hb1.mono (by simp))⟩
def Xi {α:Type} (R:Nat->World->List Value->α->Prop) (w:World) (x:α) (e:Ending) (w':World):Prop :=
 ∃cs:List Value,e=.returned (.agg cs.toArray)∧R w.heap.size w' cs x∧qc w.heap.size w w'
def S9 {α:Type} (sz jh:Nat) (R:Nat->World->List Value->α->Prop) (w:World) (xs:List α) (e:Ending) (w':World):Prop :=
 ∃v:Value,e=.returned v∧bf sz jh R w.heap.size w' v xs∧qc w.heap.size w w'
def al9 {α:Type} (R:Nat->World->List Value->α->Prop) (w:World) (x:α) (e:Ending) (w':World):Prop :=
 ∃cs:List Value,e=.returned (.agg cs.toArray)∧R w.heap.size w' cs x∧Below w.heap.size w w'
theorem Xi.weak {α:Type} {R:Nat->World->List Value->α->Prop} {w:World} {x:α} {e:Ending} {w':World} (h:Xi R w x e w'):al9 R w x e w':=by
 obtain⟨cs,h1,h2,h3⟩:=h
 exact⟨cs,h1,h2,h3.below⟩
set_option maxHeartbeats 400000 in
theorem arp (t:iw) (w:World) (hs:Len t.name.size) (ho:I64 t.op) (hv:I64 t.val) :
  Calls Tryz.prog 123 #[.agg #[.int .i64 t.op,.int .i64 t.val,.string t.name]] w (Xi tu w t):=by
 obtain⟨op,val,s⟩:=t
 simp only at hs ho hv
 have HS:=hide hs
 have HO:=hide ho
 have HV:=hide hv
 clear hs ho hv
 go_enter Tryz.func123,Tryz.ntmps123
 go_wp2
 exact bodyPost_ret (v:=.agg #[.int .i64 op,.int .i64 val,.string s]) (by simp[results,Tryz.results123,go_sem]) rfl ⟨[.int .i64 op,.int .i64 val,.string s],rfl,⟨rfl,uh HS,uh HO,uh HV⟩,(((qc.refl _).alloc (Nat.le_refl _) _).alloc (by simp) _).alloc (by simp;omega) _⟩
theorem aj3:(Tryz.prog.info? 141).map (fun i=>(i.zero,i.size,i.bytes))=some (some (.agg #[.int .i64 0,.int .i64 0,.string ByteArray.empty]),3,32):=by kernel_rfl
set_option maxHeartbeats 400000 in
theorem ae9 (xs:List iw) (v:Value) (w:World) (hv:bf 3 32 tu 0 w v xs) :
  Calls Tryz.prog 101 #[v] w (S9 3 32 tu w xs):=by
 obtain⟨a,cap,rfl,⟨hnb,_⟩,hn,hx⟩:=hv
 have Ob:=hide hnb
 have HN:=hide hn
 unfold Len at hn hnb
 have HX:=hide hx
 clear hx
 have hmk:=Hf (P:=Tryz.prog) 57 141 _ _ _ Tryz.underlying57 aj3 xs.length hnb hn
 clear hnb
 go_enter Tryz.func101,Tryz.ntmps101
 go_wp2
 go_loopg [4] xs.length (fun g i wr=>∃(k:Nat),k<=xs.length∧g=xs.length-k∧i=.int .i64 k∧qc w.heap.size w wr∧zq wr w.heap.size (xs.length*3)∧Jb 3 tu (w.heap.size+1) wr w.heap.size xs k)
 case atStart=>exact⟨0,Nat.zero_le _,by omega,rfl,(qc.refl _).alloc (Nat.le_refl _) _,zq.made _ _ _ _,Lh _ _ _ _ _ _⟩
 case round =>
  obtain⟨k,hk,hg,rfl,hbl,hrow,hfil⟩:=hrel
  clear hmk
  have HG:=hide hg
  have HF:=hide hfil
  clear hg hfil
  by_cases hlt:k<xs.length
  ·obtain⟨b,o,cs,rfl,_,hb,hcs,hc,hR⟩:=uh HX k hlt
   have hR:=og.stays _ _ _ _ _ hbl.below hR
   have hc:∀j (hj:j<cs.length),wr.cell? ⟨b,o+k*3+j,none⟩=some cs[j]:=fun j hj=>by rw[hbl.below.cell (p:=⟨b,_,none⟩) hb];exact hc j hj
   obtain⟨rfl,hsn,ho,hv⟩:=hR
   have c0:=hc 0 (by simp)
   have c1:=hc 1 (by simp)
   have c2:=hc 2 (by simp)
   simp only[Nat.mul_one,Nat.add_zero,List.getElem_cons_zero,List.getElem_cons_succ] at c0 c1 c2
   clear hc hcs
   go_wp2_with fail
   refine(arp _ _ hsn ho hv).mono ?_
   rintro e w1 ⟨cs',rfl,hR1,hb1⟩
   have hrow1:=hrow.below hb1.below
   have Q9:=hR1
   obtain⟨rfl,avd,ho1,hv1⟩:=hR1
   obtain⟨x0,d0⟩:=hrow1.cell (i:=k*3) (by omega)
   have f0:=hrow1.frozen (k*3)
   obtain⟨x1,d1⟩:=hrow1.cell (i:=k*3+1) (by omega)
   have f1:=hrow1.frozen (k*3+1)
   obtain⟨x2,d2⟩:=hrow1.cell (i:=k*3+2) (by omega)
   have f2:=hrow1.frozen (k*3+2)
   have step:=Js og Ja hlt (Nat.le_refl _) hbl hrow (uh HF) hb1 rfl Q9
   have ST:=hide step
   clear c0 c1 c2 step Q9 hrow1
   go_wp2
   go_roundg (xs.length-(k+1))
   case measure=>have:=uh HG;omega
   case rel=>exact⟨k+1,by omega,rfl,by go_num,uh ST⟩
  ·have e:k=xs.length:=by omega
   have hb0:=hrow.lt
   have D:=hide (Lj Ja hb0 (uh Ob) (uh HN) (by have:=uh HF;rwa[e] at this))
   clear hrow
   go_wp2
   go_ret
   exact⟨_,rfl,uh D,hbl⟩
theorem af7:(Tryz.prog.info? 9).map (fun i=>(i.zero,i.size,i.bytes))=some (some (.string ByteArray.empty),1,16):=by kernel_rfl
set_option maxHeartbeats 400000 in
theorem ab1 (xs:List ByteArray) (v:Value) (w:World) (hv:bf 1 16 uz 0 w v xs) :
  Calls Tryz.prog 55 #[v] w (S9 1 16 uz w xs):=by
 obtain⟨a,cap,rfl,⟨hnb,_⟩,hn,hx⟩:=hv
 have Ob:=hide hnb
 have HN:=hide hn
 unfold Len at hn hnb
 have HX:=hide hx
 clear hx
 have hmk:=Hf (P:=Tryz.prog) 40 9 _ _ _ Tryz.underlying40 af7 xs.length hnb hn
 clear hnb
 go_enter Tryz.func55,Tryz.ntmps55
 go_wp2
 go_loopg [4] xs.length (fun g i wr=>∃(k:Nat),k<=xs.length∧g=xs.length-k∧i=.int .i64 k∧qc w.heap.size w wr∧zq wr w.heap.size xs.length∧Jb 1 uz (w.heap.size+1) wr w.heap.size xs k)
 case atStart=>exact⟨0,Nat.zero_le _,by omega,rfl,(qc.refl _).alloc (Nat.le_refl _) _,zq.made _ _ _ _,Lh _ _ _ _ _ _⟩
 case round =>
  obtain⟨k,hk,hg,rfl,hbl,hrow,hfil⟩:=hrel
  clear hmk
  have HG:=hide hg
  have HF:=hide hfil
  clear hg hfil
  by_cases hlt:k<xs.length
  ·obtain⟨b,o,cs,rfl,_,hb,hcs,hc,hR⟩:=uh HX k hlt
   have hR:=lu.stays _ _ _ _ _ hbl.below hR
   have hc:∀j (hj:j<cs.length),wr.cell? ⟨b,o+k*1+j,none⟩=some cs[j]:=fun j hj=>by rw[hbl.below.cell (p:=⟨b,_,none⟩) hb];exact hc j hj
   obtain⟨rfl,hsn⟩:=hR
   have c0:=hc 0 (by simp)
   simp only[Nat.mul_one,Nat.add_zero,List.getElem_cons_zero,List.getElem_cons_succ] at c0
   clear hc hcs
   obtain⟨x0,d0⟩:=hrow.cell (i:=k) (by omega)
   have f0:=hrow.frozen k
   have step:=Js lu Dq hlt (Nat.le_refl _) hbl (by rw[Nat.mul_one];exact hrow) (uh HF) (qc.refl _) rfl (cs:=[.string xs[k]]) ⟨rfl,hsn⟩
   simp only[Nat.mul_one] at step
   have ST:=hide step
   clear step
   generalize xs[k]=s at *
   go_wp2
   go_roundg (xs.length-(k+1))
   case measure=>have:=uh HG;omega
   case rel=>exact⟨k+1,by omega,rfl,by go_num,uh ST⟩
  ·have e:k=xs.length:=by omega
   have hb0:=hrow.lt
   have D:=hide (Lj Dq hb0 (uh Ob) (uh HN) (by have:=uh HF;rwa[e] at this))
   clear hrow
   go_wp2
   go_ret
   exact⟨_,rfl,uh D,hbl⟩
theorem ahp:(Tryz.prog.info? 57).map (fun i=>(i.zero,i.size,i.bytes))=some (some (.slice none 0 0),1,24):=by kernel_rfl
set_option maxHeartbeats 400000 in
theorem ak8 (xs:List (List iw)) (v:Value) (w:World) (hv:bf 1 24 vw 0 w v xs) :
  Calls Tryz.prog 102 #[v] w (S9 1 24 vw w xs):=by
 obtain⟨a,cap,rfl,⟨hnb,_⟩,hn,hx⟩:=hv
 have Ob:=hide hnb
 have HN:=hide hn
 unfold Len at hn hnb
 have HX:=hide hx
 clear hx
 have hmk:=Hf (P:=Tryz.prog) 58 57 _ _ _ Tryz.underlying58 ahp xs.length hnb hn
 clear hnb
 go_enter Tryz.func102,Tryz.ntmps102
 go_wp2
 go_loopg [4] xs.length (fun g i wr=>∃(k:Nat),k<=xs.length∧g=xs.length-k∧i=.int .i64 k∧qc w.heap.size w wr∧zq wr w.heap.size xs.length∧Jb 1 vw (w.heap.size+1) wr w.heap.size xs k)
 case atStart=>exact⟨0,Nat.zero_le _,by omega,rfl,(qc.refl _).alloc (Nat.le_refl _) _,zq.made _ _ _ _,Lh _ _ _ _ _ _⟩
 case round =>
  obtain⟨k,hk,hg,rfl,hbl,hrow,hfil⟩:=hrel
  clear hmk
  have HG:=hide hg
  have HF:=hide hfil
  clear hg hfil
  by_cases hlt:k<xs.length
  ·obtain⟨b,o,cs,rfl,_,hb,hcs,hc,hR⟩:=uh HX k hlt
   have hR:=xq.stays _ _ _ _ _ hbl.below hR
   have hc:∀j (hj:j<cs.length),wr.cell? ⟨b,o+k*1+j,none⟩=some cs[j]:=fun j hj=>by rw[hbl.below.cell (p:=⟨b,_,none⟩) hb];exact hc j hj
   obtain⟨vl,rfl,hcl⟩:=hR
   have Oi:=hide hcl
   clear hcl
   have c0:=hc 0 (by simp)
   simp only[Nat.mul_one,Nat.add_zero,List.getElem_cons_zero,List.getElem_cons_succ] at c0
   clear hc hcs
   go_wp2_with fail
   refine(ae9 _ _ _ (uh Oi)).mono ?_
   rintro e w1 ⟨v',rfl,hS1,hb1⟩
   have hR1:vw wr.heap.size w1 [v'] xs[k]:=⟨v',rfl,hS1⟩
   have hrow1:=hrow.below hb1.below
   have Q9:=hR1
   obtain⟨aa1,ca1,rfl⟩:=hS1.shape
   clear hS1
   obtain⟨x0,d0⟩:=hrow1.cell (i:=k) (by omega)
   have f0:=hrow1.frozen (k)
   have step:=Js xq J3 hlt (Nat.le_refl _) hbl (by rw[Nat.mul_one];exact hrow) (uh HF) hb1 rfl Q9
   simp only[Nat.mul_one] at step
   have ST:=hide step
   clear c0 step Q9 hR1 hrow1
   go_wp2
   go_roundg (xs.length-(k+1))
   case measure=>have:=uh HG;omega
   case rel=>exact⟨k+1,by omega,rfl,by go_num,uh ST⟩
  ·have e:k=xs.length:=by omega
   have hb0:=hrow.lt
   have D:=hide (Lj J3 hb0 (uh Ob) (uh HN) (by have:=uh HF;rwa[e] at this))
   clear hrow
   go_wp2
   go_ret
   exact⟨_,rfl,uh D,hbl⟩
end Go.Proofs.YtlcgnbcgmljpaaaGreat
