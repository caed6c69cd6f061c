import Derived.Deep.RegionHeld3
import Derived.Test.YtlcgnbcgmljpaaaGreatFS4
namespace Go.Proofs.YtlcgnbcgmljpaaaGreat
open Go.RowKit
set_option linter.unusedSimpArgs false
set_option linter.unusedVariables false
theorem aiv {α:Type} {E:wo Tryz.prog α} {ok:α->Prop} {xs:List α} {w':World} {base:Nat} {v:Value} (ho:dw E w' base v xs) (hk:∀x,x∈xs->ok x) (hl:xs.length*E.jh<=140737488355328):zf E ok w' v xs (gu v):=⟨ho.low (Nat.zero_le _),hk,hl,rfl⟩
theorem Ry {w' w'':World} {T:Nat} (hg:(w'.alloc (.cells #[] T)).grownBy w'' (some w'.heap.size)):Below w'.heap.size w' w'':=by
 have hA:Below w'.heap.size w' (w'.alloc (.cells #[] T)):=(Below.refl _ _).alloc (Nat.le_refl _) _
 exact⟨hg.os.trans hA.os,hg.tape.trans hA.tape,hg.output.trans hA.output,Nat.le_trans hA.size hg.size,fun k hk=>(hg.block k (Nat.lt_of_lt_of_le hk hA.size) (fun e9=>by have:=Option.some.inj e9;omega)).trans (hA.block k hk)⟩
set_option maxRecDepth 20000 in
set_option maxHeartbeats 8000000 in
theorem agn (ks:List ak) (v:Value) (w:World) (h:bf 7 160 ni 0 w v ks):Calls Tryz.prog 13 #[.agg #[v]] w (CpP ks w):=by
 obtain⟨PO,Af⟩:∃PO:Ending->World->Prop,PO=CpP ks w:=⟨_,rfl⟩
 rw[←Af]
 have Fh:=hide Af
 clear Af
 obtain⟨ma,mc,rfl⟩:=h.shape
 have HS:=hide h
 have aza:=hide h.jh
 clear h
 go_enter Tryz.func13,Tryz.ntmps13
 go_wp2
 have HST:Hid (au (((w.alloc (.cells #[.slice ma ks.length mc] 28)).alloc (.cells #[.slice none 0 0] 28)).alloc (.cells #[.slice none 0 0] 28)) (w.heap.size+1+1) 28 #[.slice none 0 0]∧Below w.heap.size w (((w.alloc (.cells #[.slice ma ks.length mc] 28)).alloc (.cells #[.slice none 0 0] 28)).alloc (.cells #[.slice none 0 0] 28))∧au (((w.alloc (.cells #[.slice ma ks.length mc] 28)).alloc (.cells #[.slice none 0 0] 28)).alloc (.cells #[.slice none 0 0] 28)) (w.heap.size+1) 28 #[.slice none 0 0]):=hide ⟨Bq (by simp),(((Below.refl _ _).alloc (Nat.le_refl _) _).alloc (by simp) _).alloc (by simp;omega) _,Ol (Bq (by simp)) _⟩
 go_loopg [16] ks.length (fun gh ix wr=>∃(q:Nat),q<=ks.length∧gh=ks.length-q∧ix=.int .i64 q∧Hid (∃ov,au wr (w.heap.size+1+1) 28 #[ov]∧Ad uj oh w.heap.size wr ov (ks.take q))∧Hid (Below w.heap.size w wr)∧Hid (au wr (w.heap.size+1) 28 #[.slice none 0 0]))
 case atStart=>exact⟨0,Nat.zero_le _,by omega,rfl,hide ⟨_,(uh HST).1,by rw[List.take_zero];exact Ad.nil _ _ _ _⟩,hide (uh HST).2.1,hide (uh HST).2.2⟩
 case round =>
  obtain⟨wq,rfl⟩:∃z,z=wr:=⟨_,rfl⟩
  obtain⟨q,hq,hg,rfl,HO,HB,qm⟩:=hrel
  have HG:=hide hg
  clear hg HST
  by_cases hlt:q<ks.length
  ·obtain⟨ov,ql,hrw⟩:=uh HO
   obtain⟨oa,oc,hov⟩:=hrw.slice
   obtain⟨nq,hnq⟩:∃z,z=(ks.take q).length:=⟨_,rfl⟩
   rw[←hnq] at hov
   subst hov
   clear hnq
   have hbw:Below w.heap.size w wq:=uh HB
   obtain⟨_,_,X0,_,_,hex⟩:=uh HS
   simp only[Value.slice.injEq] at X0
   obtain⟨rfl,_,rfl⟩:=X0
   obtain⟨b,o,cs,rfl,_,hb,hcs,hc0,hR⟩:=hex q hlt
   have hc:∀j (hj:j<cs.length),wq.cell? ⟨b,o+q*7+j,none⟩=some cs[j]:=fun j hj=>by rw[hbw.cell (p:=⟨b,_,none⟩) hb];exact hc0 j hj
   have Tz:=hide (List.take_succ_eq_append_getElem hlt)
   have HLK:Hid (((ks.take q).length+1)*160<=140737488355328):=hide (by rw[List.length_take];have:=uh aza;omega)
   generalize ks[q]=k at hR Tz
   obtain⟨v1,v2,v3,v4,v5,v6,rfl,hnm,g1,g2,g3,g4,g5,g6⟩:=hR
   obtain⟨a1,c1,rfl⟩:=g1.shape
   obtain⟨a2,c2,rfl⟩:=g2.shape
   obtain⟨a3,c3,rfl⟩:=g3.shape
   obtain⟨a4,c4,rfl⟩:=g4.shape
   obtain⟨a5,c5,rfl⟩:=g5.shape
   obtain⟨a6,c6,rfl⟩:=g6.shape
   have z0:=hc 0 (by simp)
   have z1:=hc 1 (by simp)
   have z2:=hc 2 (by simp)
   have z3:=hc 3 (by simp)
   have z4:=hc 4 (by simp)
   have z5:=hc 5 (by simp)
   have z6:=hc 6 (by simp)
   simp only[Nat.add_zero,List.getElem_cons_zero,List.getElem_cons_succ] at z0 z1 z2 z3 z4 z5 z6
   have azb:(q:Int)<(ks.length:Int):=by omega
   have a6c:ks.length<=140737488355328:=by have:=uh aza;omega
   have G1:=hide (g1.stays jq hbw)
   have G2:=hide (g2.stays jq hbw)
   have G3:=hide (g3.stays lu hbw)
   have G4:=hide (g4.stays jy hbw)
   have G5:=hide (g5.stays jy hbw)
   have G6:=hide (g6.stays xu hbw)
   have V4:=hide hnm
   have Wu:=hide ql
   have HRW:=hide hrw
   have HKB:Hid (wq.heap.size<=wq.heap.size):=hide (Nat.le_refl _)
   obtain⟨S0,hS0⟩:∃z,z=wq.alloc (.cells #[.string k.name,.slice a1 k.ins.length c1,.slice a2 k.outs.length c2,.slice a3 k.ay.length c3,.slice a4 k.aj.length c4,.slice a5 k.insts.length c5,.slice a6 k.body.length c6] 43):=⟨_,rfl⟩
   have HB0:Hid (au S0 wq.heap.size 43 #[.string k.name,.slice a1 k.ins.length c1,.slice a2 k.outs.length c2,.slice a3 k.ay.length c3,.slice a4 k.aj.length c4,.slice a5 k.insts.length c5,.slice a6 k.body.length c6]):=hide (by rw[hS0];exact Bq rfl)
   have HW0:Hid (Below wq.heap.size wq S0):=hide (by rw[hS0];exact(Below.refl _ _).alloc (Nat.le_refl _) _)
   have HS0:=hide hS0
   clear hS0 hc hcs hc0 hex hbw g1 g2 g3 g4 g5 g6 hnm ql hrw hb
   have hz:S0.heap.size=wq.heap.size+1:=by rw[uh HS0];simp
   have HZ:=hide hz
   have Ei:Hid (dw yh (S0.alloc (.cells #[] 79)) S0.heap.size (.slice (some ⟨wq.heap.size+1,0,none⟩) 0 0) []):=hide (by have h9:=Jq yh S0 S0.heap.size (Nat.le_refl _);rw[hz] at h9;rw[hz];exact h9)
   clear hz
   have HSL:=hide ((uh G1).stays jq ((uh HW0).alloc (uh HW0).size (.cells #[] 79)))
   have vg:Hid ((([]:List gy).length+k.ins.length)*24<=140737488355328):=hide (by have h9:=(uh G1).jh;simpa using h9)
   have Kr:Hid (S0.heap.size<=(S0.alloc (.cells #[] 79)).heap.size):=hide (by simp)
   go_wp2_with (at_builtin;rw[←uh HS0];go_must (refine qw yh (R:=xk) (fun _ _ _ h=>h.1) _ rfl _ _ rfl S0.heap.size (wq.heap.size+1) 0 [] rfl (uh Ei) _ rfl k.ins (uh HSL) (uh vg) (uh Kr) ?_))
   intro p1 m1 x1 ho hg
   try simp only[List.length_nil,Nat.zero_add,List.nil_append] at ho ⊢
   rw[←uh HZ] at hg
   have hU:=Rx (ok:=O4) (uh HB0) (uh HW0) (uh HKB) (by decide) ho hg ((uh G1).each alu) (uh G1).jh 1
   have hbx:Below S0.heap.size S0 x1:=Ry hg
   have hbk:=(uh HB0).below hbx (uh HB0).lt
   have c10:=hbk.cell (i:=1) (v:=.slice a1 k.ins.length c1) rfl
   have c11:=hbk.free 1
   have c12:=hbk.cell (i:=2) (v:=.slice a2 k.outs.length c2) rfl
   have c13:wq.heap.size<x1.heap.size:=hbk.lt
   obtain⟨S1,hS1⟩:∃z,z=x1.setCell ⟨wq.heap.size,1,none⟩ (.slice (some ⟨p1,0,none⟩) k.ins.length m1):=⟨_,rfl⟩
   rw[←hS1] at hU
   have Bd:=hide hS1
   clear hS1
   obtain⟨Ic,Dj,F6,Ug⟩:=hU
   have HB1:Hid (au S1 wq.heap.size 43 #[.string k.name,.slice (some ⟨p1,0,none⟩) k.ins.length m1,.slice a2 k.outs.length c2,.slice a3 k.ay.length c3,.slice a4 k.aj.length c4,.slice a5 k.insts.length c5,.slice a6 k.body.length c6]):=hide Ic
   have HW1:=hide F6
   have HD1:=hide Ug
   clear Ic Dj F6 Ug ho hg hbx hbk Ei HSL vg Kr HZ HS0
   have hz:S1.heap.size=x1.heap.size:=by rw[uh Bd];simp
   have HZ:=hide hz
   have Ei:Hid (dw yh (S1.alloc (.cells #[] 79)) S1.heap.size (.slice (some ⟨x1.heap.size,0,none⟩) 0 0) []):=hide (by have h9:=Jq yh S1 S1.heap.size (Nat.le_refl _);rw[hz] at h9;rw[hz];exact h9)
   clear hz
   have HSL:=hide ((uh G2).stays jq ((uh HW1).alloc (uh HW1).size (.cells #[] 79)))
   have vg:Hid ((([]:List gy).length+k.outs.length)*24<=140737488355328):=hide (by have h9:=(uh G2).jh;simpa using h9)
   have Kr:Hid (S1.heap.size<=(S1.alloc (.cells #[] 79)).heap.size):=hide (by simp)
   go_wp2_with (at_builtin;rw[←uh Bd];go_must (refine qw yh (R:=xk) (fun _ _ _ h=>h.1) _ rfl _ _ rfl S1.heap.size (x1.heap.size) 0 [] rfl (uh Ei) _ rfl k.outs (uh HSL) (uh vg) (uh Kr) ?_))
   intro p2 m2 x2 ho hg
   try simp only[List.length_nil,Nat.zero_add,List.nil_append] at ho ⊢
   rw[←uh HZ] at hg
   have hU:=Rx (ok:=O4) (uh HB1) (uh HW1) (uh HKB) (by decide) ho hg ((uh G2).each alu) (uh G2).jh 2
   have hbx:Below S1.heap.size S1 x2:=Ry hg
   have hbk:=(uh HB1).below hbx (uh HB1).lt
   have c20:=hbk.cell (i:=2) (v:=.slice a2 k.outs.length c2) rfl
   have c21:=hbk.free 2
   have c22:=hbk.cell (i:=3) (v:=.slice a3 k.ay.length c3) rfl
   have c23:wq.heap.size<x2.heap.size:=hbk.lt
   obtain⟨S2,hS2⟩:∃z,z=x2.setCell ⟨wq.heap.size,2,none⟩ (.slice (some ⟨p2,0,none⟩) k.outs.length m2):=⟨_,rfl⟩
   rw[←hS2] at hU
   have HS2:=hide hS2
   clear hS2
   obtain⟨Ic,Dj,F6,Ug⟩:=hU
   have HB2:Hid (au S2 wq.heap.size 43 #[.string k.name,.slice (some ⟨p1,0,none⟩) k.ins.length m1,.slice (some ⟨p2,0,none⟩) k.outs.length m2,.slice a3 k.ay.length c3,.slice a4 k.aj.length c4,.slice a5 k.insts.length c5,.slice a6 k.body.length c6]):=hide Ic
   have HW2:=hide F6
   have HD2:=hide Ug
   replace HD1:=hide ((uh HD1).Cm Dj (by decide))
   clear Ic Dj F6 Ug ho hg hbx hbk Ei HSL vg Kr HZ Bd
   clear c10 c11 c12 c13
   have hz:S2.heap.size=x2.heap.size:=by rw[uh HS2];simp
   have HZ:=hide hz
   have Ei:Hid (dw Gw (S2.alloc (.cells #[] 9)) S2.heap.size (.slice (some ⟨x2.heap.size,0,none⟩) 0 0) []):=hide (by have h9:=Jq Gw S2 S2.heap.size (Nat.le_refl _);rw[hz] at h9;rw[hz];exact h9)
   clear hz
   have HSL:=hide ((uh G3).stays lu ((uh HW2).alloc (uh HW2).size (.cells #[] 9)))
   have vg:Hid ((([]:List ByteArray).length+k.ay.length)*16<=140737488355328):=hide (by have h9:=(uh G3).jh;simpa using h9)
   have Kr:Hid (S2.heap.size<=(S2.alloc (.cells #[] 9)).heap.size):=hide (by simp)
   go_wp2_with (at_builtin;rw[←uh HS2];go_must (refine qw Gw (R:=uz) (fun _ _ _ h=>h.1) _ rfl _ _ rfl S2.heap.size (x2.heap.size) 0 [] rfl (uh Ei) _ rfl k.ay (uh HSL) (uh vg) (uh Kr) ?_))
   intro p3 m3 x3 ho hg
   try simp only[List.length_nil,Nat.zero_add,List.nil_append] at ho ⊢
   rw[←uh HZ] at hg
   have hU:=Rx (ok:=okS) (uh HB2) (uh HW2) (uh HKB) (by decide) ho hg ((uh G3).each ap9) (uh G3).jh 3
   have hbx:Below S2.heap.size S2 x3:=Ry hg
   have hbk:=(uh HB2).below hbx (uh HB2).lt
   have c30:=hbk.cell (i:=3) (v:=.slice a3 k.ay.length c3) rfl
   have c31:=hbk.free 3
   have c32:=hbk.cell (i:=4) (v:=.slice a4 k.aj.length c4) rfl
   have c33:wq.heap.size<x3.heap.size:=hbk.lt
   obtain⟨S3,hS3⟩:∃z,z=x3.setCell ⟨wq.heap.size,3,none⟩ (.slice (some ⟨p3,0,none⟩) k.ay.length m3):=⟨_,rfl⟩
   rw[←hS3] at hU
   have Ef:=hide hS3
   clear hS3
   obtain⟨Ic,Dj,F6,Ug⟩:=hU
   have HB3:Hid (au S3 wq.heap.size 43 #[.string k.name,.slice (some ⟨p1,0,none⟩) k.ins.length m1,.slice (some ⟨p2,0,none⟩) k.outs.length m2,.slice (some ⟨p3,0,none⟩) k.ay.length m3,.slice a4 k.aj.length c4,.slice a5 k.insts.length c5,.slice a6 k.body.length c6]):=hide Ic
   have HW3:=hide F6
   have HD3:=hide Ug
   replace HD1:=hide ((uh HD1).Cm Dj (by decide))
   replace HD2:=hide ((uh HD2).Cm Dj (by decide))
   clear Ic Dj F6 Ug ho hg hbx hbk Ei HSL vg Kr HZ HS2
   clear c20 c21 c22 c23
   have hz:S3.heap.size=x3.heap.size:=by rw[uh Ef];simp
   have HZ:=hide hz
   have Ei:Hid (dw Hw (S3.alloc (.cells #[] 3)) S3.heap.size (.slice (some ⟨x3.heap.size,0,none⟩) 0 0) []):=hide (by have h9:=Jq Hw S3 S3.heap.size (Nat.le_refl _);rw[hz] at h9;rw[hz];exact h9)
   clear hz
   have HSL:=hide ((uh G4).stays jy ((uh HW3).alloc (uh HW3).size (.cells #[] 3)))
   have vg:Hid ((([]:List Int).length+k.aj.length)*8<=140737488355328):=hide (by have h9:=(uh G4).jh;simpa using h9)
   have Kr:Hid (S3.heap.size<=(S3.alloc (.cells #[] 3)).heap.size):=hide (by simp)
   go_wp2_with (at_builtin;rw[←uh Ef];go_must (refine qw Hw (R:=yu) (fun _ _ _ h=>h.1) _ rfl _ _ rfl S3.heap.size (x3.heap.size) 0 [] rfl (uh Ei) _ rfl k.aj (uh HSL) (uh vg) (uh Kr) ?_))
   intro p4 m4 x4 ho hg
   try simp only[List.length_nil,Nat.zero_add,List.nil_append] at ho ⊢
   rw[←uh HZ] at hg
   have hU:=Rx (ok:=I64) (uh HB3) (uh HW3) (uh HKB) (by decide) ho hg ((uh G4).each aqb) (uh G4).jh 4
   have hbx:Below S3.heap.size S3 x4:=Ry hg
   have hbk:=(uh HB3).below hbx (uh HB3).lt
   have c40:=hbk.cell (i:=4) (v:=.slice a4 k.aj.length c4) rfl
   have c41:=hbk.free 4
   have c42:=hbk.cell (i:=5) (v:=.slice a5 k.insts.length c5) rfl
   have c43:wq.heap.size<x4.heap.size:=hbk.lt
   obtain⟨S4,hS4⟩:∃z,z=x4.setCell ⟨wq.heap.size,4,none⟩ (.slice (some ⟨p4,0,none⟩) k.aj.length m4):=⟨_,rfl⟩
   rw[←hS4] at hU
   have Es:=hide hS4
   clear hS4
   obtain⟨Ic,Dj,F6,Ug⟩:=hU
   have HB4:Hid (au S4 wq.heap.size 43 #[.string k.name,.slice (some ⟨p1,0,none⟩) k.ins.length m1,.slice (some ⟨p2,0,none⟩) k.outs.length m2,.slice (some ⟨p3,0,none⟩) k.ay.length m3,.slice (some ⟨p4,0,none⟩) k.aj.length m4,.slice a5 k.insts.length c5,.slice a6 k.body.length c6]):=hide Ic
   have HW4:=hide F6
   have HD4:=hide Ug
   replace HD1:=hide ((uh HD1).Cm Dj (by decide))
   replace HD2:=hide ((uh HD2).Cm Dj (by decide))
   replace HD3:=hide ((uh HD3).Cm Dj (by decide))
   clear Ic Dj F6 Ug ho hg hbx hbk Ei HSL vg Kr HZ Ef
   clear c30 c31 c32 c33
   have hz:S4.heap.size=x4.heap.size:=by rw[uh Es];simp
   have HZ:=hide hz
   have Ei:Hid (dw Hw (S4.alloc (.cells #[] 3)) S4.heap.size (.slice (some ⟨x4.heap.size,0,none⟩) 0 0) []):=hide (by have h9:=Jq Hw S4 S4.heap.size (Nat.le_refl _);rw[hz] at h9;rw[hz];exact h9)
   clear hz
   have HSL:=hide ((uh G5).stays jy ((uh HW4).alloc (uh HW4).size (.cells #[] 3)))
   have vg:Hid ((([]:List Int).length+k.insts.length)*8<=140737488355328):=hide (by have h9:=(uh G5).jh;simpa using h9)
   have Kr:Hid (S4.heap.size<=(S4.alloc (.cells #[] 3)).heap.size):=hide (by simp)
   go_wp2_with (at_builtin;rw[←uh Es];go_must (refine qw Hw (R:=yu) (fun _ _ _ h=>h.1) _ rfl _ _ rfl S4.heap.size (x4.heap.size) 0 [] rfl (uh Ei) _ rfl k.insts (uh HSL) (uh vg) (uh Kr) ?_))
   intro p5 m5 x5 ho hg
   try simp only[List.length_nil,Nat.zero_add,List.nil_append] at ho ⊢
   rw[←uh HZ] at hg
   have hU:=Rx (ok:=I64) (uh HB4) (uh HW4) (uh HKB) (by decide) ho hg ((uh G5).each aqb) (uh G5).jh 5
   have hbx:Below S4.heap.size S4 x5:=Ry hg
   have hbk:=(uh HB4).below hbx (uh HB4).lt
   have c50:=hbk.cell (i:=5) (v:=.slice a5 k.insts.length c5) rfl
   have c51:=hbk.free 5
   have c52:=hbk.cell (i:=6) (v:=.slice a6 k.body.length c6) rfl
   have c53:wq.heap.size<x5.heap.size:=hbk.lt
   obtain⟨S5,hS5⟩:∃z,z=x5.setCell ⟨wq.heap.size,5,none⟩ (.slice (some ⟨p5,0,none⟩) k.insts.length m5):=⟨_,rfl⟩
   rw[←hS5] at hU
   have HS5:=hide hS5
   clear hS5
   obtain⟨Ic,Dj,F6,Ug⟩:=hU
   have zo:Hid (au S5 wq.heap.size 43 #[.string k.name,.slice (some ⟨p1,0,none⟩) k.ins.length m1,.slice (some ⟨p2,0,none⟩) k.outs.length m2,.slice (some ⟨p3,0,none⟩) k.ay.length m3,.slice (some ⟨p4,0,none⟩) k.aj.length m4,.slice (some ⟨p5,0,none⟩) k.insts.length m5,.slice a6 k.body.length c6]):=hide Ic
   have HW5:=hide F6
   have HD5:=hide Ug
   replace HD1:=hide ((uh HD1).Cm Dj (by decide))
   replace HD2:=hide ((uh HD2).Cm Dj (by decide))
   replace HD3:=hide ((uh HD3).Cm Dj (by decide))
   replace HD4:=hide ((uh HD4).Cm Dj (by decide))
   clear Ic Dj F6 Ug ho hg hbx hbk Ei HSL vg Kr HZ Es
   clear c40 c41 c42 c43
   have hz5:S5.heap.size=x5.heap.size:=by rw[uh HS5];simp
   have HKC:Hid (KC k wq.heap.size (.slice (some ⟨p1,0,none⟩) k.ins.length m1) (.slice (some ⟨p2,0,none⟩) k.outs.length m2) (.slice (some ⟨p3,0,none⟩) k.ay.length m3) (.slice (some ⟨p4,0,none⟩) k.aj.length m4) (.slice (some ⟨p5,0,none⟩) k.insts.length m5) (.slice a6 k.body.length c6) S5):=hide ⟨uh zo,⟨_,uh HD1⟩,⟨_,uh HD2⟩,⟨_,uh HD3⟩,⟨_,uh HD4⟩,_,uh HD5⟩
   have hAA:Below S5.heap.size S5 (S5.alloc (.cells #[] 60)):=(Below.refl _ _).alloc (Nat.le_refl _) _
   have HST:Hid (Ad zh Aa wq.heap.size (S5.alloc (.cells #[] 60)) (.slice (some ⟨x5.heap.size,0,none⟩) 0 0) (k.body.take 0)∧Below wq.heap.size wq (S5.alloc (.cells #[] 60))∧KC k wq.heap.size (.slice (some ⟨p1,0,none⟩) k.ins.length m1) (.slice (some ⟨p2,0,none⟩) k.outs.length m2) (.slice (some ⟨p3,0,none⟩) k.ay.length m3) (.slice (some ⟨p4,0,none⟩) k.aj.length m4) (.slice (some ⟨p5,0,none⟩) k.insts.length m5) (.slice a6 k.body.length c6) (S5.alloc (.cells #[] 60))):=hide ⟨by rw[List.take_zero,←hz5];exact Ad.start zh Aa S5 _ (uh HW5).size,(uh HW5).trans (hAA.mono (uh HW5).size),(uh HKC).Cm (T:=60) (Fb.P7 hAA) (by decide)⟩
   clear hAA hz5 HD1 HD2 HD3 HD4 HD5 HB1 HB2 HB3 HB4 HW1 HW2 HW3 HW4 HB0 HW0 G1 G2 G3 G4 G5 z0 z1 z2 z3 z4 z5 z6 HKC HO
   go_wp2
   rw[←uh HS5]
   clear HS5 c50 c51 c52 c53 zo HW5
   go_loopg [6,49] k.body.length (fun gh bv ix wr=>∃(p:Nat),p<=k.body.length∧gh=k.body.length-p∧ix=.int .i64 p∧Hid (Ad zh Aa wq.heap.size wr bv (k.body.take p))∧Hid (Below wq.heap.size wq wr)∧Hid (KC k wq.heap.size (.slice (some ⟨p1,0,none⟩) k.ins.length m1) (.slice (some ⟨p2,0,none⟩) k.outs.length m2) (.slice (some ⟨p3,0,none⟩) k.ay.length m3) (.slice (some ⟨p4,0,none⟩) k.aj.length m4) (.slice (some ⟨p5,0,none⟩) k.insts.length m5) (.slice a6 k.body.length c6) wr))
   case atStart=>exact⟨0,Nat.zero_le _,by omega,rfl,hide (uh HST).1,hide (uh HST).2.1,hide (uh HST).2.2⟩
   case round =>
    obtain⟨wm,rfl⟩:∃z,z=wr:=⟨_,rfl⟩
    obtain⟨p,hp,hg2,rfl,HR2,HB2,Ny⟩:=hrel
    have HG2:=hide hg2
    clear hg2 HST
    by_cases hlp:p<k.body.length
    ·have hbw:Below wq.heap.size wq wm:=uh HB2
     obtain⟨_,_,X0,_,_,hex⟩:=uh G6
     simp only[Value.slice.injEq] at X0
     obtain⟨rfl,atg,rfl⟩:=X0
     clear atg
     obtain⟨b6,o6,cs,rfl,_,hb,hcs,hc0,hR⟩:=hex p hlp
     have hc:∀j (hj:j<cs.length),wm.cell? ⟨b6,o6+p*6+j,none⟩=some cs[j]:=fun j hj=>by rw[hbw.cell (p:=⟨b6,_,none⟩) hb];exact hc0 j hj
     have azc:=hide (List.take_succ_eq_append_getElem hlp)
     have a3w:Hid (((k.body.take p).length+1)*104<=140737488355328):=hide (by rw[List.length_take];have:=(uh G6).jh;omega)
     generalize k.body[p]=s at hR azc
     obtain⟨v3,v4,v5,rfl,hsn,hsk,hsa,e3,e4,e5⟩:=hR
     obtain⟨s3,r3,rfl⟩:=e3.shape
     obtain⟨s4,r4,rfl⟩:=e4.shape
     obtain⟨s5,r5,rfl⟩:=e5.shape
     have y0:=hc 0 (by simp)
     have y1:=hc 1 (by simp)
     have y2:=hc 2 (by simp)
     have y3:=hc 3 (by simp)
     have y4:=hc 4 (by simp)
     have y5:=hc 5 (by simp)
     simp only[Nat.add_zero,List.getElem_cons_zero,List.getElem_cons_succ] at y0 y1 y2 y3 y4 y5
     have a3x:(p:Int)<(k.body.length:Int):=by omega
     have a6d:k.body.length<=140737488355328:=by have:=(uh G6).jh;omega
     have E3:=hide (e3.stays lu hbw)
     have E4:=hide (e4.stays og hbw)
     have E5:=hide (e5.stays xq hbw)
     have Il:=hide (And.intro hsn (And.intro hsk hsa))
     obtain⟨T0,hT0⟩:∃z,z=wm.alloc (.cells #[.int .i64 s.kind,.string s.name,.int .i64 s.at_,.slice s3 s.outs.length r3,.slice s4 s.code.length r4,.slice s5 s.args.length r5] 60):=⟨_,rfl⟩
     have HX0:Hid (au T0 wm.heap.size 60 #[.int .i64 s.kind,.string s.name,.int .i64 s.at_,.slice s3 s.outs.length r3,.slice s4 s.code.length r4,.slice s5 s.args.length r5]):=hide (by rw[hT0];exact Bq rfl)
     have HV0:Hid (Below wm.heap.size wm T0):=hide (by rw[hT0];exact(Below.refl _ _).alloc (Nat.le_refl _) _)
     have hz:T0.heap.size=wm.heap.size+1:=by rw[hT0];simp
     have HZ:=hide hz
     have HT0:=hide hT0
     have Ei:Hid (dw Gw (T0.alloc (.cells #[] 9)) T0.heap.size (.slice (some ⟨wm.heap.size+1,0,none⟩) 0 0) []):=hide (by have h9:=Jq Gw T0 T0.heap.size (Nat.le_refl _);rw[hz] at h9;rw[hz];exact h9)
     have HSL:=hide ((uh E3).stays lu ((uh HV0).alloc (uh HV0).size (.cells #[] 9)))
     have vg:Hid ((([]:List ByteArray).length+s.outs.length)*16<=140737488355328):=hide (by have h9:=(uh E3).jh;simpa using h9)
     have Kr:Hid (T0.heap.size<=(T0.alloc (.cells #[] 9)).heap.size):=hide (by simp)
     clear hz hT0 hc hcs hc0 hex hbw e3 e4 e5 hsn hsk hsa hb
     go_wp2_with (at_builtin;rw[←uh HT0];go_must (refine qw Gw (R:=uz) (fun _ _ _ h=>h.1) _ rfl _ _ rfl T0.heap.size (wm.heap.size+1) 0 [] rfl (uh Ei) _ rfl s.outs (uh HSL) (uh vg) (uh Kr) ?_))
     intro d3 l3 t1 ho hg
     try simp only[List.length_nil,Nat.zero_add,List.nil_append] at ho ⊢
     rw[←uh HZ] at hg
     have hU:=Rx (ok:=okS) (uh HX0) (uh HV0) (Nat.le_refl _) (by decide) ho hg ((uh E3).each ap9) (uh E3).jh 3
     have hbk:=(uh HX0).below (Ry hg) (uh HX0).lt
     have f30:=hbk.cell (i:=3) (v:=.slice s3 s.outs.length r3) rfl
     have f31:=hbk.free 3
     have f32:=hbk.cell (i:=4) (v:=.slice s4 s.code.length r4) rfl
     have f33:wm.heap.size<t1.heap.size:=hbk.lt
     obtain⟨T1,hT1⟩:∃z,z=t1.setCell ⟨wm.heap.size,3,none⟩ (.slice (some ⟨d3,0,none⟩) s.outs.length l3):=⟨_,rfl⟩
     rw[←hT1] at hU
     have HT1:=hide hT1
     clear hT1
     obtain⟨Ic,Dj,F6,Ug⟩:=hU
     have mg:Hid (au T1 wm.heap.size 60 #[.int .i64 s.kind,.string s.name,.int .i64 s.at_,.slice (some ⟨d3,0,none⟩) s.outs.length l3,.slice s4 s.code.length r4,.slice s5 s.args.length r5]):=hide Ic
     have HV1:=hide F6
     have HE3:=hide Ug
     have HCC:=hide (aar s.code (.slice s4 s.code.length r4) T1 ((uh E4).stays og F6))
     clear Ic Dj F6 Ug ho hg hbk Ei HSL vg Kr HZ HT0 y0 y1 y2 y3 y4 y5
     go_wp2_with fail
     rw[←uh HT1]
     refine(uh HCC).mono ?_
     rintro e t2 ⟨v9,rfl,ho9,jc⟩
     obtain⟨d4,l4,rfl⟩:=ho9.slice
     have hbk:=(uh mg).below jc (uh mg).lt
     have f40:=hbk.cell (i:=4) (v:=.slice s4 s.code.length r4) rfl
     have f41:=hbk.free 4
     have f42:=hbk.cell (i:=5) (v:=.slice s5 s.args.length r5) rfl
     have f43:wm.heap.size<t2.heap.size:=hbk.lt
     have hU:=Rw hbk ((uh HV1).trans (jc.mono (uh HV1).size)) (Nat.le_refl _) 4 (.slice d4 s.code.length l4)
     obtain⟨T2,hT2⟩:∃z,z=t2.setCell ⟨wm.heap.size,4,none⟩ (.slice d4 s.code.length l4):=⟨_,rfl⟩
     rw[←hT2] at hU
     have hz2:T2.heap.size=t2.heap.size:=by rw[hT2];simp
     have HT2:=hide hT2
     clear hT2
     obtain⟨Ic,Dj,F6⟩:=hU
     have hrd:zf Dv okI t2 (.slice d4 s.code.length l4) s.code _:=aiv ho9 ((uh E4).each aqa) (uh E4).jh
     have hKS:KS s wm.heap.size (.slice (some ⟨d3,0,none⟩) s.outs.length l3) (.slice d4 s.code.length l4) (.slice s5 s.args.length r5) T2:=⟨Ic,⟨_,((uh HE3).azd jc).Cm Dj (by decide)⟩,_,hrd.Cm Dj (by decide)⟩
     have hAA:Below T2.heap.size T2 (T2.alloc (.cells #[] 57)):=(Below.refl _ _).alloc (Nat.le_refl _) _
     have HST:Hid (Ad Fg Dw wm.heap.size (T2.alloc (.cells #[] 57)) (.slice (some ⟨t2.heap.size,0,none⟩) 0 0) (s.args.take 0)∧Below wm.heap.size wm (T2.alloc (.cells #[] 57))∧KS s wm.heap.size (.slice (some ⟨d3,0,none⟩) s.outs.length l3) (.slice d4 s.code.length l4) (.slice s5 s.args.length r5) (T2.alloc (.cells #[] 57))):=hide ⟨by rw[List.take_zero,←hz2];exact Ad.start Fg Dw T2 _ F6.size,F6.trans (hAA.mono F6.size),hKS.Cm (T:=57) (Fb.P7 hAA) (by decide)⟩
     clear Ic Dj F6 hrd hKS hAA ho9 jc hbk HE3 mg HV1 HX0 HV0 E3 E4 HT1 f30 f31 f32 f33 hz2 HCC
     go_wp2
     rw[←uh HT2]
     clear HT2 f40 f41 f42 f43
     go_loopg [9,66] s.args.length (fun gh av ix wr=>∃(r:Nat),r<=s.args.length∧gh=s.args.length-r∧ix=.int .i64 r∧Hid (Ad Fg Dw wm.heap.size wr av (s.args.take r))∧Hid (Below wm.heap.size wm wr)∧Hid (KS s wm.heap.size (.slice (some ⟨d3,0,none⟩) s.outs.length l3) (.slice d4 s.code.length l4) (.slice s5 s.args.length r5) wr))
     case atStart=>exact⟨0,Nat.zero_le _,by omega,rfl,hide (uh HST).1,hide (uh HST).2.1,hide (uh HST).2.2⟩
     case round =>
      obtain⟨wn,rfl⟩:∃z,z=wr:=⟨_,rfl⟩
      obtain⟨r,hr,hg3,rfl,HR3,HB3,Y1⟩:=hrel
      have Kz:=hide hg3
      clear hg3 HST
      by_cases hlr:r<s.args.length
      ·have hbw:Below wm.heap.size wm wn:=uh HB3
       obtain⟨_,_,X0,_,_,hex⟩:=uh E5
       simp only[Value.slice.injEq] at X0
       obtain⟨rfl,atg,rfl⟩:=X0
       clear atg
       obtain⟨b5,o5,cs,rfl,_,hb,hcs,hc0,hR⟩:=hex r hlr
       have aze:=hide (List.take_succ_eq_append_getElem hlr)
       have a3y:Hid (((s.args.take r).length+1)*24<=140737488355328):=hide (by rw[List.length_take];have:=(uh E5).jh;omega)
       generalize s.args[r]=x at hR aze
       obtain⟨v0,rfl,e0⟩:=hR
       obtain⟨ea,ec,rfl⟩:=e0.shape
       have y0:wn.cell? ⟨b5,o5+r,none⟩=some (.slice ea x.length ec):=by
        rw[hbw.cell (p:=⟨b5,_,none⟩) hb]
        have h9:=hc0 0 (by simp)
        simpa using h9
       have HE0:=hide (e0.each aqa)
       have HEB:=hide e0.jh
       have HCC:=hide (aar x (.slice ea x.length ec) wn (e0.stays og hbw))
       have a3z:(r:Int)<(s.args.length:Int):=by omega
       have a6e:s.args.length<=140737488355328:=by have:=(uh E5).jh;omega
       clear hcs hc0 hex hbw e0 hb
       go_wp2_with fail
       refine(uh HCC).mono ?_
       rintro e w1 ⟨v9,rfl,ho9,jc⟩
       obtain⟨ia,ic,rfl⟩:=ho9.slice
       obtain⟨csn,sbn,hon,han⟩:=uh HR3
       have hA:Below w1.heap.size w1 (w1.alloc (.cells #[.slice ia x.length ic] 57)):=(Below.refl _ _).alloc (Nat.le_refl _) _
       have hAB:Below wn.heap.size wn (w1.alloc (.cells #[.slice ia x.length ic] 57)):=jc.trans (hA.mono jc.size)
       have aiw:=hon.below hAB
       have azf:=han.mono (fun c x s _ _ _ h9=>Pm _ _ _ _ _ h9 ((X3 _ _ _ _ h9).below hAB))
       have hlen:=han.len
       have Du:Hid ((csn.length+1)*24<=140737488355328):=hide (by rw[hlen.1];exact uh a3y)
       obtain⟨c,hcv⟩:∃c:Raw 1,c.1=[.slice ia x.length ic]:=⟨⟨[.slice ia x.length ic],by simp,by intro u hu;simp only[List.mem_singleton] at hu;subst hu;rfl⟩,rfl⟩
       have J9:=hide hcv
       have hTN:Dw (w1.alloc (.cells #[.slice ia x.length ic] 57)) c.1 x (gu (.slice ia x.length ic)):=by
        rw[hcv]
        exact⟨_,rfl,(aiv ho9 (uh HE0) (uh HEB)).azd hA⟩
       have X4:Below wm.heap.size wm (w1.alloc (.cells #[.slice ia x.length ic] 57)):=(uh HB3).trans (hAB.mono (uh HB3).size)
       have Ee:=hide aiw
       have Es:=hide X4.size
       have azg:Hid (∀v' w5,dw Fg w5 wm.heap.size v' (csn++[c])->(w1.alloc (.cells #[.slice ia x.length ic] 57)).grownBy w5 u9.ownBlock->Ad Fg Dw wm.heap.size w5 v' (s.args.take (r+1))∧Below wm.heap.size wm w5∧KS s wm.heap.size (.slice (some ⟨d3,0,none⟩) s.outs.length l3) (.slice d4 s.code.length l4) (.slice (some ⟨b5,o5,none⟩) s.args.length r5) w5):=hide (fun v' w5 k1 k2=>by
        rw[uh aze]
        exact⟨Ad.snoc Pm X3 (by decide) aiw azf hTN k1 k2,aiw.grown X4 k2 X4.size (Nat.le_refl _),((uh Y1).Cm (T:=57) (Fb.P7 hAB) (by decide)).Cm (T:=57) (Ad.aeo aiw k2) (by decide)⟩)
       clear hcv hTN hon han aiw azf hlen hA hAB X4 ho9 jc HCC HE0 HEB y0
       go_wp2_with (at_builtin;go_must (refine l9 Fg _ rfl _ _ rfl wm.heap.size _ csn rfl (uh Ee) w1.heap.size c rfl (fun j u hu=>by rw[World.cell?_alloc_at _ _ _ _ rfl];have hu':c.1[j]?=some u:=hu;rw[uh J9] at hu';simpa using hu') (uh Du) (uh Es) ?_))
       intro v' w5 Bh hg5 Eh
       have HF3:=hide (uh azg v' w5 Bh (by simpa using hg5))
       clear Bh hg5 Eh azg
       go_wp2
       go_roundg (s.args.length-(r+1))
       case measure=>have:=uh Kz;omega
       case rel=>exact⟨r+1,by omega,rfl,by go_num,hide (uh HF3).1,hide (uh HF3).2.1,hide (uh HF3).2.2⟩
      ·have e9:r=s.args.length:=by omega
       obtain⟨ua,uc,hu⟩:=(uh HR3).slice
       rw[e9,List.take_length] at hu
       have HR9:Hid (Ad Fg Dw wm.heap.size wn (.slice ua s.args.length uc) s.args):=hide (by have h9:=uh HR3;rw[e9,List.take_length,hu] at h9;exact h9)
       have a3z:¬(r:Int)<(s.args.length:Int):=by omega
       subst hu
       obtain⟨hbk,⟨bb3,q3⟩,bb4,q4⟩:=uh Y1
       have f0:=hbk.cell (i:=0) (v:=.int .i64 s.kind) rfl
       have f1:=hbk.cell (i:=1) (v:=.string s.name) rfl
       have f2:=hbk.cell (i:=2) (v:=.int .i64 s.at_) rfl
       have f3:=hbk.cell (i:=3) (v:=.slice (some ⟨d3,0,none⟩) s.outs.length l3) rfl
       have f4:=hbk.cell (i:=4) (v:=.slice d4 s.code.length l4) rfl
       have f5:=hbk.cell (i:=5) (v:=.slice s5 s.args.length r5) rfl
       have f6:=hbk.free 5
       have f7:wm.heap.size<wn.heap.size:=hbk.lt
       have hU:=Rw hbk (uh HB3) (Nat.le_refl _) 5 (.slice ua s.args.length uc)
       obtain⟨T3,hT3⟩:∃z,z=wn.setCell ⟨wm.heap.size,5,none⟩ (.slice ua s.args.length uc):=⟨_,rfl⟩
       rw[←hT3] at hU
       have hz3:T3.heap.size=wn.heap.size:=by rw[hT3];simp
       have HT3:=hide hT3
       have HZ3:=hide hz3
       clear hT3 hz3
       obtain⟨Ic,Dj,F6⟩:=hU
       have azh:KS s wm.heap.size (.slice (some ⟨d3,0,none⟩) s.outs.length l3) (.slice d4 s.code.length l4) (.slice ua s.args.length uc) T3:=⟨Ic,⟨_,q3.Cm Dj (by decide)⟩,_,q4.Cm Dj (by decide)⟩
       obtain⟨bb5,hrt⟩:=((uh HR9).Cm Pm X3 Dj (by decide) (by decide)).rowT (show s.args.length*24<=_ from (uh E5).jh)
       obtain⟨bS,hTS⟩:=azh.stm (uh Il).1 (uh Il).2.1 (uh Il).2.2 hrt
       have hA:Below T3.heap.size T3 (T3.alloc (.cells #[.int .i64 s.kind,.string s.name,.int .i64 s.at_,.slice (some ⟨d3,0,none⟩) s.outs.length l3,.slice d4 s.code.length l4,.slice ua s.args.length uc] 60)):=(Below.refl _ _).alloc (Nat.le_refl _) _
       have hAB:Below wm.heap.size wm (T3.alloc (.cells #[.int .i64 s.kind,.string s.name,.int .i64 s.at_,.slice (some ⟨d3,0,none⟩) s.outs.length l3,.slice d4 s.code.length l4,.slice ua s.args.length uc] 60)):=F6.trans (hA.mono F6.size)
       obtain⟨csb,sbb,hob,hab⟩:=uh HR2
       have Uy:=hob.below hAB
       have aix:=hab.mono (fun c x s _ _ _ h9=>I4 _ _ _ _ _ h9 ((Rz _ _ _ _ h9).below hAB))
       have hlen:=hab.len
       have Du:Hid ((csb.length+1)*104<=140737488355328):=hide (by rw[hlen.1];exact uh a3w)
       obtain⟨c,hcv⟩:∃c:Raw 6,c.1=[.int .i64 s.kind,.string s.name,.int .i64 s.at_,.slice (some ⟨d3,0,none⟩) s.outs.length l3,.slice d4 s.code.length l4,.slice ua s.args.length uc]:=⟨⟨[.int .i64 s.kind,.string s.name,.int .i64 s.at_,.slice (some ⟨d3,0,none⟩) s.outs.length l3,.slice d4 s.code.length l4,.slice ua s.args.length uc],by simp,by intro u hu;simp only[List.mem_cons,List.not_mem_nil,or_false] at hu;rcases hu with rfl|rfl|rfl|rfl|rfl|rfl<;>rfl⟩,rfl⟩
       have J9:=hide hcv
       have hTN:Aa (T3.alloc (.cells #[.int .i64 s.kind,.string s.name,.int .i64 s.at_,.slice (some ⟨d3,0,none⟩) s.outs.length l3,.slice d4 s.code.length l4,.slice ua s.args.length uc] 60)) c.1 s bS:=by
        rw[hcv]
        exact I4 _ _ _ _ _ hTS ((Rz _ _ _ _ hTS).below hA)
       have X4:Below wq.heap.size wq (T3.alloc (.cells #[.int .i64 s.kind,.string s.name,.int .i64 s.at_,.slice (some ⟨d3,0,none⟩) s.outs.length l3,.slice d4 s.code.length l4,.slice ua s.args.length uc] 60)):=(uh HB2).trans (hAB.mono (uh HB2).size)
       have Ee:=hide Uy
       have Es:=hide X4.size
       have azi:Hid (∀v' w5,dw zh w5 wq.heap.size v' (csb++[c])->(T3.alloc (.cells #[.int .i64 s.kind,.string s.name,.int .i64 s.at_,.slice (some ⟨d3,0,none⟩) s.outs.length l3,.slice d4 s.code.length l4,.slice ua s.args.length uc] 60)).grownBy w5 u6.ownBlock->Ad zh Aa wq.heap.size w5 v' (k.body.take (p+1))∧Below wq.heap.size wq w5∧KC k wq.heap.size (.slice (some ⟨p1,0,none⟩) k.ins.length m1) (.slice (some ⟨p2,0,none⟩) k.outs.length m2) (.slice (some ⟨p3,0,none⟩) k.ay.length m3) (.slice (some ⟨p4,0,none⟩) k.aj.length m4) (.slice (some ⟨p5,0,none⟩) k.insts.length m5) (.slice (some ⟨b6,o6,none⟩) k.body.length c6) w5):=hide (fun v' w5 k1 k2=>by
        rw[uh azc]
        exact⟨Ad.snoc I4 Rz (by decide) Uy aix hTN k1 k2,Uy.grown X4 k2 X4.size (Nat.le_refl _),((uh Ny).Cm (T:=60) (Fb.P7 hAB) (by decide)).Cm (T:=60) (Ad.aeo Uy k2) (by decide)⟩)
       clear hcv hTN hob hab Uy aix hlen hA hAB X4 Ic Dj F6 azh hrt hTS hbk q3 q4 HR9 HR3 Y1 HB3 e9
       go_wp2_with (at_builtin;rw[←uh HT3];go_must (refine l9 zh _ rfl _ _ rfl wq.heap.size _ csb rfl (uh Ee) wn.heap.size c rfl (fun j u hu=>by rw[World.cell?_alloc_at _ _ _ _ (by rw[uh HZ3])];have hu':c.1[j]?=some u:=hu;rw[uh J9] at hu';simpa using hu') (uh Du) (uh Es) ?_))
       intro v' w5 Bh hg5 Eh
       have HF2:=hide (uh azi v' w5 Bh (by simpa using hg5))
       clear Bh hg5 Eh azi HT3 f0 f1 f2 f3 f4 f5 f6 f7
       go_wp2
       go_roundg (k.body.length-(p+1))
       case measure=>have:=uh HG2;omega
       case rel=>exact⟨p+1,by omega,rfl,by go_num,hide (uh HF2).1,hide (uh HF2).2.1,hide (uh HF2).2.2⟩
    ·have e9:p=k.body.length:=by omega
     obtain⟨ba,bc,hu⟩:=(uh HR2).slice
     rw[e9,List.take_length] at hu
     have HR9:Hid (Ad zh Aa wq.heap.size wm (.slice ba k.body.length bc) k.body):=hide (by have h9:=uh HR2;rw[e9,List.take_length,hu] at h9;exact h9)
     have a3x:¬(p:Int)<(k.body.length:Int):=by omega
     subst hu
     have hbk:=(uh Ny).1
     have f0:=hbk.cell (i:=0) (v:=.string k.name) rfl
     have f1:=hbk.cell (i:=1) (v:=.slice (some ⟨p1,0,none⟩) k.ins.length m1) rfl
     have f2:=hbk.cell (i:=2) (v:=.slice (some ⟨p2,0,none⟩) k.outs.length m2) rfl
     have f3:=hbk.cell (i:=3) (v:=.slice (some ⟨p3,0,none⟩) k.ay.length m3) rfl
     have f4:=hbk.cell (i:=4) (v:=.slice (some ⟨p4,0,none⟩) k.aj.length m4) rfl
     have f5:=hbk.cell (i:=5) (v:=.slice (some ⟨p5,0,none⟩) k.insts.length m5) rfl
     have f6:=hbk.cell (i:=6) (v:=.slice a6 k.body.length c6) rfl
     have f7:=hbk.free 6
     have f8:wq.heap.size<wm.heap.size:=hbk.lt
     have ql:=(uh Wu).below (uh HB2) (uh Wu).lt
     have o0:=ql.cell (i:=0) (v:=.slice oa nq oc) rfl
     have o1:w.heap.size+1+1<wq.heap.size:=(uh Wu).lt
     have hU:=Rw hbk (uh HB2) (Nat.le_refl _) 6 (.slice ba k.body.length bc)
     obtain⟨U1,hT3⟩:∃z,z=wm.setCell ⟨wq.heap.size,6,none⟩ (.slice ba k.body.length bc):=⟨_,rfl⟩
     rw[←hT3] at hU
     have hz3:U1.heap.size=wm.heap.size:=by rw[hT3];simp
     have HT3:=hide hT3
     have HZ3:=hide hz3
     clear hT3 hz3
     obtain⟨Ic,Dj,F6⟩:=hU
     obtain⟨_,⟨j1,q1⟩,⟨j2,q2⟩,⟨j3,q3⟩,⟨j4,q4⟩,j5,q5⟩:=uh Ny
     have azj:KC k wq.heap.size (.slice (some ⟨p1,0,none⟩) k.ins.length m1) (.slice (some ⟨p2,0,none⟩) k.outs.length m2) (.slice (some ⟨p3,0,none⟩) k.ay.length m3) (.slice (some ⟨p4,0,none⟩) k.aj.length m4) (.slice (some ⟨p5,0,none⟩) k.insts.length m5) (.slice ba k.body.length bc) U1:=⟨Ic,⟨_,q1.Cm Dj (by decide)⟩,⟨_,q2.Cm Dj (by decide)⟩,⟨_,q3.Cm Dj (by decide)⟩,⟨_,q4.Cm Dj (by decide)⟩,_,q5.Cm Dj (by decide)⟩
     obtain⟨bb5,hrt⟩:=((uh HR9).Cm I4 Rz Dj (by decide) (by decide)).rowT (show k.body.length*104<=_ from (uh G6).jh)
     obtain⟨bS,hTS⟩:=azj.cls (uh V4) hrt
     have hA:Below U1.heap.size U1 (U1.alloc (.cells #[.string k.name,.slice (some ⟨p1,0,none⟩) k.ins.length m1,.slice (some ⟨p2,0,none⟩) k.outs.length m2,.slice (some ⟨p3,0,none⟩) k.ay.length m3,.slice (some ⟨p4,0,none⟩) k.aj.length m4,.slice (some ⟨p5,0,none⟩) k.insts.length m5,.slice ba k.body.length bc] 43)):=(Below.refl _ _).alloc (Nat.le_refl _) _
     have hAB:Below wq.heap.size wq (U1.alloc (.cells #[.string k.name,.slice (some ⟨p1,0,none⟩) k.ins.length m1,.slice (some ⟨p2,0,none⟩) k.outs.length m2,.slice (some ⟨p3,0,none⟩) k.ay.length m3,.slice (some ⟨p4,0,none⟩) k.aj.length m4,.slice (some ⟨p5,0,none⟩) k.insts.length m5,.slice ba k.body.length bc] 43)):=F6.trans (hA.mono F6.size)
     obtain⟨csb,sbb,hob,hab⟩:=uh HRW
     have Uy:=hob.below hAB
     have aix:=hab.mono (fun c x s _ _ _ h9=>zx _ _ _ _ _ h9 ((zy _ _ _ _ h9).below hAB))
     have hlen:=hab.len
     have Du:Hid ((csb.length+1)*160<=140737488355328):=hide (by rw[hlen.1];exact uh HLK)
     obtain⟨c,hcv⟩:∃c:Raw 7,c.1=[.string k.name,.slice (some ⟨p1,0,none⟩) k.ins.length m1,.slice (some ⟨p2,0,none⟩) k.outs.length m2,.slice (some ⟨p3,0,none⟩) k.ay.length m3,.slice (some ⟨p4,0,none⟩) k.aj.length m4,.slice (some ⟨p5,0,none⟩) k.insts.length m5,.slice ba k.body.length bc]:=⟨⟨[.string k.name,.slice (some ⟨p1,0,none⟩) k.ins.length m1,.slice (some ⟨p2,0,none⟩) k.outs.length m2,.slice (some ⟨p3,0,none⟩) k.ay.length m3,.slice (some ⟨p4,0,none⟩) k.aj.length m4,.slice (some ⟨p5,0,none⟩) k.insts.length m5,.slice ba k.body.length bc],by simp,by intro u hu;simp only[List.mem_cons,List.not_mem_nil,or_false] at hu;rcases hu with rfl|rfl|rfl|rfl|rfl|rfl|rfl<;>rfl⟩,rfl⟩
     have J9:=hide hcv
     have hTN:oh (U1.alloc (.cells #[.string k.name,.slice (some ⟨p1,0,none⟩) k.ins.length m1,.slice (some ⟨p2,0,none⟩) k.outs.length m2,.slice (some ⟨p3,0,none⟩) k.ay.length m3,.slice (some ⟨p4,0,none⟩) k.aj.length m4,.slice (some ⟨p5,0,none⟩) k.insts.length m5,.slice ba k.body.length bc] 43)) c.1 k bS:=by
      rw[hcv]
      exact zx _ _ _ _ _ hTS ((zy _ _ _ _ hTS).below hA)
     have X4:Below w.heap.size w (U1.alloc (.cells #[.string k.name,.slice (some ⟨p1,0,none⟩) k.ins.length m1,.slice (some ⟨p2,0,none⟩) k.outs.length m2,.slice (some ⟨p3,0,none⟩) k.ay.length m3,.slice (some ⟨p4,0,none⟩) k.aj.length m4,.slice (some ⟨p5,0,none⟩) k.insts.length m5,.slice ba k.body.length bc] 43)):=(uh HB).trans (hAB.mono (uh HB).size)
     have Ee:=hide Uy
     have Es:=hide X4.size
     have ams:=(uh Wu).below hAB (uh Wu).lt
     have azk:=(uh qm).below hAB (uh qm).lt
     have azl:Hid (∀v' w5,dw uj w5 w.heap.size v' (csb++[c])->(U1.alloc (.cells #[.string k.name,.slice (some ⟨p1,0,none⟩) k.ins.length m1,.slice (some ⟨p2,0,none⟩) k.outs.length m2,.slice (some ⟨p3,0,none⟩) k.ay.length m3,.slice (some ⟨p4,0,none⟩) k.aj.length m4,.slice (some ⟨p5,0,none⟩) k.insts.length m5,.slice ba k.body.length bc] 43)).grownBy w5 (Value.slice oa nq oc).ownBlock->Ad uj oh w.heap.size w5 v' (ks.take (q+1))∧Below w.heap.size w w5∧au w5 (w.heap.size+1+1) 28 #[.slice oa nq oc]∧au w5 (w.heap.size+1) 28 #[.slice none 0 0]):=hide (fun v' w5 k1 k2=>by
      rw[uh Tz]
      exact⟨Ad.snoc zx zy (by decide) Uy aix hTN k1 k2,Uy.grown X4 k2 X4.size (Nat.le_refl _),(Ad.aeo Uy k2).blk ams (by decide),(Ad.aeo Uy k2).blk azk (by decide)⟩)
     clear hcv hTN hob hab Uy aix hlen hA hAB X4 Ic Dj F6 azj hrt hTS hbk q1 q2 q3 q4 q5 HR9 HR2 Ny HB2 e9 ams azk ql
     go_wp2_with (at_builtin;rw[←uh HT3];go_must (refine l9 uj _ rfl _ _ rfl w.heap.size _ csb rfl (uh Ee) wm.heap.size c rfl (fun j u hu=>by rw[World.cell?_alloc_at _ _ _ _ (by rw[uh HZ3])];have hu':c.1[j]?=some u:=hu;rw[uh J9] at hu';simpa using hu') (uh Du) (uh Es) ?_))
     intro v' w5 Bh hg5 Eh
     obtain⟨k1,k2,k3,k4⟩:=uh azl v' w5 Bh (by simpa using hg5)
     obtain⟨va,vc,hv'⟩:=k1.slice
     obtain⟨nv,hnv⟩:∃z,z=(ks.take (q+1)).length:=⟨_,rfl⟩
     rw[←hnv] at hv'
     subst hv'
     have o2:=k3.cell (i:=0) (v:=.slice oa nq oc) rfl
     have o3:=k3.free 0
     have hU:=Rw k3 k2 (show w.heap.size<=w.heap.size+1+1 by omega) 0 (.slice va nv vc)
     obtain⟨w6,hw6⟩:∃z,z=w5.setCell ⟨w.heap.size+1+1,0,none⟩ (.slice va nv vc):=⟨_,rfl⟩
     rw[←hw6] at hU
     have uw:Hid (∃ov,au w6 (w.heap.size+1+1) 28 #[ov]∧Ad uj oh w.heap.size w6 ov (ks.take (q+1))):=hide ⟨_,hU.1,k1.Cm zx zy hU.2.1 (by decide) (by decide)⟩
     have Ob:Hid (Below w.heap.size w w6):=hide hU.2.2
     have HNR:Hid (au w6 (w.heap.size+1) 28 #[.slice none 0 0]):=hide (by rw[hw6];exact(Below.heap_setCell _ _ _ _ (by simp)).trans k4)
     have HW6:=hide hw6
     clear k1 k2 k3 k4 hU hnv hw6 Bh hg5 Eh azl HT3 f0 f1 f2 f3 f4 f5 f6 f7 f8 o0 o1 Wu HRW
     go_wp2
     rw[←uh HW6]
     go_roundg (ks.length-(q+1))
     case measure=>have:=uh HG;omega
     case rel=>exact⟨q+1,by omega,rfl,by go_num,uw,Ob,HNR⟩
  ·have e9:q=ks.length:=by omega
   obtain⟨ov,ql,hrw⟩:=uh HO
   rw[e9,List.take_length] at hrw
   obtain⟨oa,oc,hov⟩:=hrw.slice
   obtain⟨nq,hnq⟩:∃z,z=ks.length:=⟨_,rfl⟩
   rw[←hnq] at hov
   subst hov
   have hqI:¬(q:Int)<(ks.length:Int):=by omega
   have o0:=ql.cell (i:=0) (v:=.slice oa nq oc) rfl
   have o1:=(uh qm).cell (i:=0) (v:=.slice none 0 0) rfl
   have o2:=(uh qm).free 0
   have hU:=Rw (uh qm) (uh HB) (show w.heap.size<=w.heap.size+1 by omega) 0 (.slice oa nq oc)
   have zu:Hid (PO (.returned (.agg #[.slice oa nq oc])) (wq.setCell ⟨w.heap.size+1,0,none⟩ (.slice oa nq oc))∧(wq.setCell ⟨w.heap.size+1,0,none⟩ (.slice oa nq oc)).cell? ⟨w.heap.size+1,0,none⟩=some (.slice oa nq oc)):=by
    rw[uh Fh]
    exact hide ⟨⟨_,rfl,hrw.Cm zx zy hU.2.1 (by decide) (by decide),hU.2.2⟩,hU.1.cell (i:=0) rfl⟩
   clear e9 ql hrw hnq hU
   go_wp2
   have f9:=(uh zu).2
   exact bodyPost_ret (v:=.agg #[.slice oa nq oc]) (by simp[results,Tryz.results13,go_sem,f9]) rfl (uh zu).1
end Go.Proofs.YtlcgnbcgmljpaaaGreat
