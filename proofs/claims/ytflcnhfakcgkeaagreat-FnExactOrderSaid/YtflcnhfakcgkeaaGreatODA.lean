import Derived.Test.YtflcnhfakcgkeaaGreatOD7
namespace Go.Proofs.YtflcnhfakcgkeaaGreat
open Go.RowKit Go.Shelf
set_option linter.unusedSimpArgs false
set_option linter.unusedVariables false
attribute [local go_sem] Oper.semAt_some
set_option maxRecDepth 100000 in
set_option maxHeartbeats 8000000 in
theorem alo (W0 w:World) (ns:List ay) (i:Nat) (x:ay) (ho:Okn ns i x) (nb no:Nat) (hnd:At 5 o7 W0 nb no x) (sb vb:Nat) (ov:Value) (D:List Nat) (C L:List cu->Option Nat) (N:Nat) (hsc:Sc W0 w (.pointer (some ⟨nb,no,none⟩)) .nilFunc (aj x) (ru x (qx x) x.eqs.length) sb vb ov D C L N) :
  Calls Tryz.prog 19 #[.pointer (some ⟨sb,0,none⟩)] w (fun e w'=>∃v,e=.returned v∧iw mg w' w.heap.size v (su x x.eqs.length)∧Below w.heap.size w w'):=by
 have I7:=ho.lp.len
 obtain⟨hbl,cs,hl,hc,v1,v2,v3,v4,rfl,hs,_,_,_,Lm⟩:=hnd
 obtain⟨ea,ec,hv4⟩:=Lm.shape
 subst hv4
 have k4:=(hsc.old.cell (p:=⟨nb,_,none⟩) hbl).trans (hc 4 (by simp))
 simp only[List.getElem_cons_zero,List.getElem_cons_succ] at k4
 have s0:=hsc.tq.cell (i:=0) (v:=.pointer (some ⟨nb,no,none⟩)) rfl
 have hA:Below w.heap.size w (w.alloc (.cells #[.pointer (some ⟨sb,0,none⟩)] 50)):=(Below.refl _ _).alloc (Nat.le_refl _) _
 have aus:(Instr.makeSlice 26 (.int .i64 (x.eqs.length:Int)) (.int .i64 (x.eqs.length:Int))).run Tryz.prog (w.alloc (.cells #[.pointer (some ⟨sb,0,none⟩)] 50))=.ok (.slice (some ⟨w.heap.size+1,0,none⟩) x.eqs.length x.eqs.length) ((w.alloc (.cells #[.pointer (some ⟨sb,0,none⟩)] 50)).alloc (.cells ((List.replicate x.eqs.length (0:Int)).map (Value.int .i64)).toArray 3)):=by
  have h9:=Am (P:=Tryz.prog) 26 3 (.int .i64 0) 1 8 anp as3 x.eqs.length (by omega) (by omega) (w.alloc (.cells #[.pointer (some ⟨sb,0,none⟩)] 50))
  rw[Nat.mul_one,aja,World.size_alloc] at h9
  exact h9
 obtain⟨wB,hwB⟩:∃z,z=(w.alloc (.cells #[.pointer (some ⟨sb,0,none⟩)] 50)).alloc (.cells ((List.replicate x.eqs.length (0:Int)).map (Value.int .i64)).toArray 3):=⟨_,rfl⟩
 have hB:Below w.heap.size w wB:=by rw[hwB];exact hA.alloc (by simp) _
 have hzB:wB.heap.size=w.heap.size+2:=by rw[hwB];simp
 have hsB:dh wB w.heap.size 50 #[.pointer (some ⟨sb,0,none⟩)]:=by rw[hwB];exact(jd w _ _).below ((Below.refl _ _).alloc (Nat.le_refl _) _) (by simp)
 have hmB:dh wB (w.heap.size+1) 3 ((List.replicate x.eqs.length (0:Int)).map (Value.int .i64)).toArray:=by
  have:=jd (w.alloc (.cells #[.pointer (some ⟨sb,0,none⟩)] 50)) ((List.replicate x.eqs.length (0:Int)).map (Value.int .i64)).toArray 3
  rw[World.size_alloc] at this
  rw[hwB]
  exact this
 rw[←hwB] at aus
 have hC:Below wB.heap.size wB (wB.alloc (.cells #[.slice (some ⟨w.heap.size+1,0,none⟩) x.eqs.length x.eqs.length] 26)):=(Below.refl _ _).alloc (Nat.le_refl _) _
 have aut:(Instr.makeSlice 79 (.int .i64 (x.eqs.length:Int)) (.int .i64 (x.eqs.length:Int))).run Tryz.prog (wB.alloc (.cells #[.slice (some ⟨w.heap.size+1,0,none⟩) x.eqs.length x.eqs.length] 26))=.ok (.slice (some ⟨w.heap.size+3,0,none⟩) x.eqs.length x.eqs.length) ((wB.alloc (.cells #[.slice (some ⟨w.heap.size+1,0,none⟩) x.eqs.length x.eqs.length] 26)).alloc (.cells ((List.range x.eqs.length).map (fun _=>Value.slice none 0 0)).toArray 26)):=by
  have h9:=Am (P:=Tryz.prog) 79 26 (.slice none 0 0) 1 24 Tryz.underlying79 (by kernel_rfl) x.eqs.length (by omega) (by omega) (wB.alloc (.cells #[.slice (some ⟨w.heap.size+1,0,none⟩) x.eqs.length x.eqs.length] 26))
  rw[Nat.mul_one,aoy,World.size_alloc,hzB] at h9
  exact h9
 obtain⟨wD,hwD⟩:∃z,z=(wB.alloc (.cells #[.slice (some ⟨w.heap.size+1,0,none⟩) x.eqs.length x.eqs.length] 26)).alloc (.cells ((List.range x.eqs.length).map (fun _=>Value.slice none 0 0)).toArray 26):=⟨_,rfl⟩
 rw[←hwD] at aut
 have hBD:Below wB.heap.size wB wD:=by rw[hwD];exact hC.alloc (by simp) _
 have hzD:wD.heap.size=w.heap.size+4:=by rw[hwD];simp[hzB]
 have hcD:dh wD (w.heap.size+2) 26 #[.slice (some ⟨w.heap.size+1,0,none⟩) x.eqs.length x.eqs.length]:=by
  have:=jd wB #[.slice (some ⟨w.heap.size+1,0,none⟩) x.eqs.length x.eqs.length] 26
  rw[hzB] at this
  rw[hwD]
  exact this.below ((Below.refl _ _).alloc (Nat.le_refl _) _) this.lt
 have hrD:dh wD (w.heap.size+3) 26 ((List.range x.eqs.length).map (fun _=>Value.slice none 0 0)).toArray:=by
  have:=jd (wB.alloc (.cells #[.slice (some ⟨w.heap.size+1,0,none⟩) x.eqs.length x.eqs.length] 26)) ((List.range x.eqs.length).map (fun _=>Value.slice none 0 0)).toArray 26
  rw[World.size_alloc,hzB] at this
  rw[hwD]
  exact this
 obtain⟨wE,hwE⟩:∃z,z=wD.alloc (.cells #[.slice (some ⟨w.heap.size+3,0,none⟩) x.eqs.length x.eqs.length] 79):=⟨_,rfl⟩
 have hDE:Below wD.heap.size wD wE:=by rw[hwE];exact(Below.refl _ _).alloc (Nat.le_refl _) _
 have hzE:wE.heap.size=w.heap.size+5:=by rw[hwE];simp[hzD]
 have auu:Below w.heap.size w wD:=hB.trans (hBD.mono hB.size)
 have akn:Below w.heap.size w wE:=auu.trans (hDE.mono auu.size)
 have az2:dh wE (w.heap.size+4) 79 #[.slice (some ⟨w.heap.size+3,0,none⟩) x.eqs.length x.eqs.length]:=by
  have:=jd wD #[.slice (some ⟨w.heap.size+3,0,none⟩) x.eqs.length x.eqs.length] 79
  rw[hzD] at this
  rw[hwE]
  exact this
 have cell:∀{u:World} {b o:Nat} {q:Value},Below w.heap.size w u->w.cell? ⟨b,o,none⟩=some q->u.cell? ⟨b,o,none⟩=some q:=fun {u b o q} hb h=>(hb.cell (World.block_lt_of_cell? w _ h)).trans h
 have bBx:dh (wB.alloc (.cells #[.slice (some ⟨w.heap.size+1,0,none⟩) x.eqs.length x.eqs.length] 26)) w.heap.size 50 #[.pointer (some ⟨sb,0,none⟩)]:=hsB.below hC hsB.lt
 have hCw:Below w.heap.size w (wB.alloc (.cells #[.slice (some ⟨w.heap.size+1,0,none⟩) x.eqs.length x.eqs.length] 26)):=hB.trans (hC.mono hB.size)
 have sE:=(hsB.below hBD hsB.lt).below hDE (by omega)
 have p1:=(jd w #[.pointer (some ⟨sb,0,none⟩)] 50).cell (i:=0) (v:=.pointer (some ⟨sb,0,none⟩)) rfl
 have p2:=cell hA s0
 have p3:=cell hA k4
 have q1:=bBx.cell (i:=0) (v:=.pointer (some ⟨sb,0,none⟩)) rfl
 have q2:=cell hCw s0
 have q3:=cell hCw k4
 have r1:=sE.cell (i:=0) (v:=.pointer (some ⟨sb,0,none⟩)) rfl
 have r2:=cell akn s0
 have r3:=cell akn k4
 have HSD:Hid (Gf wE w.heap.size (w.heap.size+1) (w.heap.size+3) x.eqs.length (List.replicate x.eqs.length 0) (fun _=>.slice none 0 0) (fun _=>[])):=hide (Gf.start ((hmB.below hBD hmB.lt).below hDE (by omega)) (hrD.below hDE hrD.lt) (by omega) (by omega))
 have HSE:=hide (hsc.below akn)
 have tu:Hid (dh wE w.heap.size 50 #[.pointer (some ⟨sb,0,none⟩)]∧dh wE (w.heap.size+2) 26 #[.slice (some ⟨w.heap.size+1,0,none⟩) x.eqs.length x.eqs.length]∧dh wE (w.heap.size+4) 79 #[.slice (some ⟨w.heap.size+3,0,none⟩) x.eqs.length x.eqs.length]):=hide ⟨sE,hcD.below hDE hcD.lt,az2⟩
 have Xd:=hide akn
 have HZE:=hide hzE
 have HZB:=hide hzB
 have HZD:=hide hzD
 have HQS:=hide Lm
 have HO:=hide ho
 have Nb:=hide hsc
 have HK4:=hide k4
 have J3:=hide s0
 clear hA hB hzB hsB hmB hC hBD hzD hcD hrD hDE auu akn az2 cell bBx hCw sE hwB hwD Lm ho hsc s0 k4 hc hl hs hbl hzE
 obtain⟨PO,l7⟩:∃PO:Ending->World->Prop,PO=(fun e w'=>∃v,e=.returned v∧iw mg w' w.heap.size v (su x x.eqs.length)∧Below w.heap.size w w'):=⟨_,rfl⟩
 rw[←l7]
 have qy:=hide l7
 clear l7
 refine(callsIn_wide (n:=8)).1 ?_
 refine callsIn_of_wp_marks Tryz.func19 rfl trivial ?_ rfl
 simp only[Tryz.ntmps19,List.size_toArray,List.length_cons,List.length_nil,Nat.reduceAdd,Nat.reduceSub,Array.replicate_succ,Array.replicate_zero,List.push_toArray,List.append_toArray,List.nil_append,List.cons_append]
 rw[hwE] at r1 r2 r3
 gi_wp2
 rw[←hwE,uh HZB,uh HZD]
 clear hwE
 refine wpIn_loop (fun a wr=>∃(e:Nat) (Ds:List Nat) (M:List Int) (rv:Nat->Value) (R:Nat->List Int) (u5 u6 u7 u39 u40 u41 u42 u43 u44 u45 u46 u47 u48 u49 u50 u51 u52 u53 u54 u55 u56 u57 u58 u59 u60 u61 u62 u63 u64 u65 u66 u67 u68 u69 u70 u71 u72 u73 u74 u75 u76 u77 u78 u79 u80:Value),a={ tmps:=#[.pointer (some ⟨sb,0,none⟩),.pointer (some ⟨w.heap.size,0,none⟩),.slice none 0 0,.pointer (some ⟨w.heap.size+2,0,none⟩),.pointer (some ⟨w.heap.size+4,0,none⟩),u5,u6,u7,undef,undef,undef,undef,.pointer (some ⟨sb,0,none⟩),.pointer (some ⟨sb,0,none⟩),.pointer (some ⟨sb,0,none⟩),.pointer (some ⟨nb,no,none⟩),.pointer (some ⟨nb,no,none⟩),.pointer (some ⟨nb,no+4,none⟩),.slice ea x.eqs.length ec,.int .i64 (x.eqs.length:Int),.slice (some ⟨w.heap.size+1,0,none⟩) x.eqs.length x.eqs.length,.pointer (some ⟨sb,0,none⟩),.pointer (some ⟨sb,0,none⟩),.pointer (some ⟨sb,0,none⟩),.pointer (some ⟨nb,no,none⟩),.pointer (some ⟨nb,no,none⟩),.pointer (some ⟨nb,no+4,none⟩),.slice ea x.eqs.length ec,.int .i64 (x.eqs.length:Int),.slice (some ⟨w.heap.size+3,0,none⟩) x.eqs.length x.eqs.length,.pointer (some ⟨sb,0,none⟩),.pointer (some ⟨sb,0,none⟩),.pointer (some ⟨sb,0,none⟩),.pointer (some ⟨nb,no,none⟩),.pointer (some ⟨nb,no,none⟩),.pointer (some ⟨nb,no+4,none⟩),.slice ea x.eqs.length ec,.int .i64 (x.eqs.length:Int),.int .i64 (e:Int),u39,u40,u41,u42,u43,u44,u45,u46,u47,u48,u49,u50,u51,u52,u53,u54,u55,u56,u57,u58,u59,u60,u61,u62,u63,u64,u65,u66,u67,u68,u69,u70,u71,u72,u73,u74,u75,u76,u77,u78,u79,u80,undef,undef,undef,undef,undef,undef,undef,undef,undef,undef,undef,undef,undef,undef,undef,undef,undef,undef,undef,undef,undef,undef,undef,undef,undef,undef,undef,undef,undef,undef,undef,undef,undef,undef,undef,undef,undef],defers:=Ds.map aoz }∧e<=x.eqs.length∧azz W0 w wE x (w.heap.size+1) (w.heap.size+3) (w.heap.size+2) e Ds M rv R wr) (fun a _=>x.eqs.length-(intOf (a.tmps.getD 38 undef)).toNat) ?_ ?_
 ·exact⟨0,[],List.replicate x.eqs.length 0,fun _=>.slice none 0 0,fun _=>[],undef,undef,undef,undef,undef,undef,undef,undef,undef,undef,undef,undef,undef,undef,undef,undef,undef,undef,undef,undef,undef,undef,undef,undef,undef,undef,undef,undef,undef,undef,undef,undef,undef,undef,undef,undef,undef,undef,undef,undef,undef,undef,undef,undef,undef,rfl,Nat.zero_le _,uh HSD,Bz.refl _ _,N8.nil _ _,RdI.start x _,(uh tu).2.1⟩
 intro a wr hI
 obtain⟨e,Ds,M,rv,R,u5,u6,u7,u39,u40,u41,u42,u43,u44,u45,u46,u47,u48,u49,u50,u51,u52,u53,u54,u55,u56,u57,u58,u59,u60,u61,u62,u63,u64,u65,u66,u67,u68,u69,u70,u71,u72,u73,u74,u75,u76,u77,u78,u79,u80,rfl,he,hso⟩:=hI
 generalize hKK:(fun a' w'=>_∧_)=K9
 have HKK:=hide hKK
 clear hKK
 by_cases hlt:e<x.eqs.length
 case neg =>
  have hen:e=x.eqs.length:=by omega
  subst hen
  have ads:Below w.heap.size w wr:=⟨hso.kp.os.trans (uh Xd).os,hso.kp.tape.trans (uh Xd).tape,hso.kp.output.trans (uh Xd).output,Nat.le_trans (uh Xd).size hso.kp.size,fun k hk=>(hso.kp.low k hk (Nat.lt_of_lt_of_le hk (uh Xd).size)).trans ((uh Xd).block k hk)⟩
  have c1:=(hso.kp.blk (uh tu).1 (by decide) (by decide)).cell (i:=0) (v:=.pointer (some ⟨sb,0,none⟩)) rfl
  have c2:=(ads.cell (World.block_lt_of_cell? w _ (uh J3))).trans (uh J3)
  have c3:=(ads.cell (World.block_lt_of_cell? w _ (uh HK4))).trans (uh HK4)
  have HCI:Hid (Vf w wE x.eqs.length (w.heap.size+1) (w.heap.size+3) (w.heap.size+2) Ds rv R M [] (.slice none 0 0) wr):=hide ⟨hso.sd,hso.kp,hso.mks,hso.Z5,iw.nil _ _,(by intro h;cases h),fun _ _ _ h=>(by cases h)⟩
  have HWK:Hid (WtK x R 0 M):=hide (auo hso.rd)
  have Oh:=hide hso.rd
  have hnl:¬((x.eqs.length:Int)<(x.eqs.length:Int)):=by omega
  have az3:x.eqs.length<=500:=I7
  clear hso ads r1 r2 r3 p1 p2 p3 q1 q2 q3 aus aut he hlt HKK
  gi_wp2
  clear c1 c2 c3
  gi_loopw [8,89] (fun ov iv w2=>∃(k:Nat) (M2:List Int),k<=x.eqs.length∧iv=.int .i64 (k:Int)∧Vf w wE x.eqs.length (w.heap.size+1) (w.heap.size+3) (w.heap.size+2) Ds rv R M2 (su x k) ov w2∧WtK x R k M2) (fun _ iv _=>x.eqs.length-(intOf iv).toNat)
  case atStart=>exact⟨0,M,Nat.zero_le _,rfl,uh HCI,uh HWK⟩
  case round =>
   rename World=>w2
   obtain⟨k,M2,hk,rfl,hci,hwk⟩:=hrel
   by_cases hlt2:k<x.eqs.length
   case neg =>
    have hkn:k=x.eqs.length:=by omega
    subst hkn
    have HCF:=hide hci
    obtain⟨oa,oc,hov⟩:=hci.own.slice
    clear hci hwk hlt2 hk
    gi_wp2
    refine akj Ds _ (uh HCF).mks (fun w' hw'=>?_)
    refine⟨u8,?_,?_⟩
    ·simp[results,Tryz.f19,go_sem]
    ·rw[uh qy]
     have h9:=aq3 (uh HCF) (uh Xd) hw'
     exact⟨u8,rfl,h9.1,h9.2⟩
   obtain⟨e2,he2,hor,hz2,hmin,hnx2⟩:=aln (uh HO) hlt2 (c:=fun j g=>(R g).count (j:Int)) (fun j g hj hg=>((uh Oh).cnt j hj g hg).trans ((uh HO).ed j g)) (W:=uo M2) hwk
   have hml:=hci.sd.Zf
   have b2:=hci.Z5.cell (i:=0) (v:=.slice (some ⟨w.heap.size+1,0,none⟩) x.eqs.length x.eqs.length) rfl
   have HIX:Hid (Calls Tryz.prog 30 #[.slice (some ⟨w.heap.size+1,0,none⟩) x.eqs.length x.eqs.length,.int .i64 0] w2 fun e9 w'=>e9=.returned (.int .i64 (e2:Int))∧w'=w2):=by
    have h9:=aul (w.heap.size+1) M2 w2 hci.sd.mrow e2 (by rw[hml];exact he2) hz2 hmin (by rw[hml];omega)
    rw[hml] at h9
    exact hide h9
   have a6h:(e2:Int)<(x.eqs.length:Int):=by omega
   have Ec:(k:Int)<(x.eqs.length:Int):=by omega
   have m2:=Ji hci.sd.mrow e2 (by rw[hml];exact he2)
   have m2z:=hci.sd.mrow.free e2
   obtain⟨w3,hw3⟩:∃z,z=w2.setCell ⟨w.heap.size+1,e2,none⟩ (.int .i64 (-1)):=⟨_,rfl⟩
   have az4:Vf w wE x.eqs.length (w.heap.size+1) (w.heap.size+3) (w.heap.size+2) Ds rv R (M2.set e2 (-1)) (su x k) u8 w3:=by rw[hw3];exact hci.afx e2 (-1)
   have hA3:Below w3.heap.size w3 (w3.alloc (.cells #[.int .i64 (e2:Int)] 3)):=(Below.refl _ _).alloc (Nat.le_refl _) _
   have HCA:=hide (az4.below hA3)
   have az5:w.heap.size<=(w3.alloc (.cells #[.int .i64 (e2:Int)] 3)).heap.size:=by
    have h1:=(uh HCA).kp.size
    have h2:=(uh Xd).size
    omega
   have hol:(su x k).length<=500:=by rw[Jw];omega
   have HOL:=hide hol
   have Og:=hide az5
   have HWT:Hid (WtT x.eqs.length e2 (R e2) M2 0 (M2.set e2 (-1))):=hide (aup _ _ _ _ hml he2)
   have afb:=hide hwk
   have ake:=hide hnx2
   have HOR:=hide hor
   have HE2:=hide he2
   have HK2:=hide hlt2
   clear hci hwk hmin hz2 hnx2 hor hml az4 hA3 az5 hol hk he2 hlt2 HWK HCI
   subst hw3
   refine wpIn_wide.2 ?_
   go_wp2_with (first|(go_at_call 30;refine(uh HIX).mono ?_;rintro e9 w9 ⟨rfl,hw9⟩;rw[hw9];clear hw9)|(at_builtin;go_must (refine Dl mg _ rfl _ _ rfl w.heap.size _ (su x k) rfl (uh HCA).own _ (e2:Int) rfl (fun j u hu=>by rw[World.cell?_alloc_at _ _ _ _ (by simp[World.setCell])];simpa[mg] using hu) (by have:=uh HOL;show (_+1)*8<=_;omega) (uh Og) ?_)))
   intro v5 w5 Xa hg5 I7
   have afy:Vf w wE x.eqs.length (w.heap.size+1) (w.heap.size+3) (w.heap.size+2) Ds rv R (M2.set e2 (-1)) (su x k++[(e2:Int)]) v5 w5:=(uh HCA).app Xa hg5 (fun b hb=>by have h9:=I7 b hb;simpa[World.setCell] using h9)
   rw[←uh HOR] at afy
   have HC5:=hide afy
   obtain⟨a9,c9,Qh⟩:=(afy.sd.own e2 (uh HE2)).slice
   have b4:=(afy.kp.blk (uh tu).2.2 (by decide) (by decide)).cell (i:=0) (v:=.slice (some ⟨w.heap.size+3,0,none⟩) x.eqs.length x.eqs.length) rfl
   have g2:=afy.sd.cell e2 (uh HE2)
   rw[Qh] at g2
   have HV9:=hide Qh
   obtain⟨L9,hL9⟩:∃z,z=(R e2).length:=⟨_,rfl⟩
   rw[←hL9] at g2
   have HL9:=hide hL9
   have hLb:L9<=2000000000:=by
    have h9:=(uh Oh).len e2 (uh HE2)
    omega
   clear afy Qh hL9 Xa hg5 I7 HCA HIX Og HOL
   go_wp2
   clear g2
   go_loopw [105] (fun iv w6=>∃(t:Nat) (M3:List Int),t<=L9∧iv=.int .i64 (t:Int)∧Vf w wE x.eqs.length (w.heap.size+1) (w.heap.size+3) (w.heap.size+2) Ds rv R M3 (su x (k+1)) v5 w6∧WtT x.eqs.length e2 (R e2) M2 t M3) (fun iv _=>L9-(intOf iv).toNat)
   case atStart=>exact⟨0,_,Nat.zero_le _,rfl,uh HC5,uh HWT⟩
   case round =>
    rename World=>w6
    obtain⟨t,M3,ht,rfl,hc6,hw6⟩:=hrel
    by_cases htl:t<L9
    ·have htR:t<(R e2).length:=by rw[←uh HL9];exact htl
     obtain⟨r,hr,hrz⟩:=(uh Oh).ent e2 (uh HE2) _ (List.getElem_mem htR)
     have hbd:=a1k (uh afb) hw6 (B:=x.eqs.length*2000000) (fun g hg=>(uh Oh).len g hg) (uh HE2) r hr
     obtain⟨g,hag⟩:∃g,a9=some ⟨g,0,none⟩:=by
      rcases (hc6.sd.own e2 (uh HE2)).shape with ⟨h0,h1⟩|⟨g,cap,hv,_⟩
      ·rw[h1] at htR;simp at htR
      ·rw[uh HV9,Value.slice.injEq] at hv
       exact⟨g,hv.1⟩
     subst hag
     have hic:w6.cell? ⟨g,t,none⟩=some (.int .i64 (r:Int)):=by
      have h9:=hc6.sd.own e2 (uh HE2)
      rw[uh HV9] at h9
      have h8:=h9.Yp t htR
      rw[hrz] at h8
      exact h8
     have hb2:=hc6.Z5.cell (i:=0) (v:=.slice (some ⟨w.heap.size+1,0,none⟩) x.eqs.length x.eqs.length) rfl
     have auv:=hc6.sd.Zf
     have m3:=Ji hc6.sd.mrow r (by rw[auv];exact hr)
     have m3z:=hc6.sd.mrow.free r
     have hrI:(r:Int)<(x.eqs.length:Int):=by omega
     have htI:(t:Int)<(L9:Int):=by omega
     have HN6:Hid (Vf w wE x.eqs.length (w.heap.size+1) (w.heap.size+3) (w.heap.size+2) Ds rv R (M3.set r (uo M3 r-1)) (su x (k+1)) v5 (w6.setCell ⟨w.heap.size+1,r,none⟩ (.int .i64 (uo M3 r-1)))∧WtT x.eqs.length e2 (R e2) M2 (t+1) (M3.set r (uo M3 r-1))):=hide ⟨hc6.afx r _,auq hw6 auv htR r hrz hr⟩
     have hb3 : -2000000000000<=uo M3 r∧uo M3 r<=2000000000000:=by
      have h9:x.eqs.length*(x.eqs.length*2000000)<=500*(500*2000000):=Nat.mul_le_mul az3 (Nat.mul_le_mul_right _ az3)
      omega
     obtain⟨z,hz⟩:∃z,z=uo M3 r:=⟨_,rfl⟩
     rw[←hz] at m3 hb3 HN6
     obtain⟨a6i,a6j⟩:=hb3
     clear hz hbd hrz htR hc6 hw6 auv hr
     go_wp2
     go_roundw
     case rel=>exact⟨t+1,_,by omega,by go_num,(uh HN6).1,(uh HN6).2⟩
     case measure=>simp[intOf];omega
    ·have htn:t=L9:=by omega
     subst htn
     have HKN:Hid (WtK x R (k+1) M3):=by
      rw[uh HL9] at hw6
      exact hide (aur hw6 (uh ake))
     have HC6:=hide hc6
     clear hc6 hw6 htl ht
     go_wp2
     go_roundw
     case rel=>exact⟨k+1,M3,by have:=uh HK2;omega,by go_num,uh HC6,uh HKN⟩
     case measure=>have:=uh HK2;simp[intOf];omega
 have heI:(e:Int)<(x.eqs.length:Int):=by omega
 clear r1 r2 r3 p1 p2 p3 q1 q2 q3 aus aut
 obtain⟨eb,eo,ecp,hqe,hat⟩:=(uh HQS).at' e hlt
 simp only[Value.slice.injEq] at hqe
 obtain⟨rfl,H8,rfl⟩:=hqe
 clear H8
 have HAT:Hid (At 4 Dt W0 eb (eo+e*4) x.eqs[e]):=hide hat
 have az6:Sc W0 wr (.pointer (some ⟨nb,no,none⟩)) .nilFunc (aj x) (ru x (qx x) x.eqs.length) sb vb ov D C L N:=(uh HSE).keep ⟨hso.kp.os,hso.kp.tape,hso.kp.output,hso.kp.size,fun k h1 h2=>hso.kp.low k (Nat.lt_of_lt_of_le h1 (uh Nb).old.size) h2,hso.kp.other⟩
 obtain⟨wS,Va⟩:∃z,z=wr.alloc (.cells #[.int .i64 (e:Int)] 3):=⟨_,rfl⟩
 have hrS:Below wr.heap.size wr wS:=by rw[Va];exact(Below.refl _ _).alloc (Nat.le_refl _) _
 have Tc:dh wS wr.heap.size 3 #[.int .i64 (e:Int)]:=by rw[Va];exact jd wr _ _
 have az7:=az6.below hrS
 have az8:dh wS w.heap.size 50 #[.pointer (some ⟨sb,0,none⟩)]:=(hso.kp.blk (uh tu).1 (by decide) (by decide)).below hrS (hso.kp.blk (uh tu).1 (by decide) (by decide)).lt
 have ads:Below w.heap.size w wr:=⟨hso.kp.os.trans (uh Xd).os,hso.kp.tape.trans (uh Xd).tape,hso.kp.output.trans (uh Xd).output,Nat.le_trans (uh Xd).size hso.kp.size,fun k hk=>(hso.kp.low k hk (Nat.lt_of_lt_of_le hk (uh Xd).size)).trans ((uh Xd).block k hk)⟩
 have auw:Below w.heap.size w wS:=ads.trans (hrS.mono ads.size)
 have c1:=az8.cell (i:=0) (v:=.pointer (some ⟨sb,0,none⟩)) rfl
 have c2:=(auw.cell (World.block_lt_of_cell? w _ (uh J3))).trans (uh J3)
 have c3:=(auw.cell (World.block_lt_of_cell? w _ (uh HK4))).trans (uh HK4)
 have c4:=Tc.cell (i:=0) (v:=.int .i64 (e:Int)) rfl
 obtain⟨wL,hwL⟩:∃z,z=(wS.drew.alloc (.cells #[.pointer (some ⟨sb,0,none⟩)] 50)).alloc (.cells #[.pointer (some ⟨eb,eo+e*4,none⟩)] 83):=⟨_,rfl⟩
 have hL:Below wS.heap.size wS wL:=by rw[hwL];exact(((Below.refl _ wS).drew).alloc (Nat.le_refl _) _).alloc (by rw[World.size_alloc];exact Nat.le_succ _) _
 have HRA:Hid (Calls Tryz.prog 29 #[.pointer (some ⟨sb,0,none⟩),.pointer (some ⟨eb,eo+e*4,none⟩)] wS.drew fun e9 w'=>e9=.returned (.func (.func 50) #[] #[.pointer (some ⟨wS.heap.size,0,none⟩),.pointer (some ⟨wS.heap.size+1,0,none⟩)])∧w'=wL):=by
  have h9:=Zu sb eb (eo+e*4) wS.drew
  rw[hwL]
  exact hide h9
 have d1:wL.cell? ⟨w.heap.size,0,none⟩=some (.pointer (some ⟨sb,0,none⟩)):=(hL.cell (World.block_lt_of_cell? wS _ c1)).trans c1
 have d2:wL.cell? ⟨sb,0,none⟩=some (.pointer (some ⟨nb,no,none⟩)):=(hL.cell (World.block_lt_of_cell? wS _ c2)).trans c2
 have d3:wL.cell? ⟨nb,no+4,none⟩=some (.slice (some ⟨eb,eo,none⟩) x.eqs.length ec):=(hL.cell (World.block_lt_of_cell? wS _ c3)).trans c3
 have d4:wL.cell? ⟨wr.heap.size,0,none⟩=some (.int .i64 (e:Int)):=(hL.cell (World.block_lt_of_cell? wS _ c4)).trans c4
 have V4:Hid (dh wL wS.heap.size 50 #[.pointer (some ⟨sb,0,none⟩)]∧dh wL (wS.heap.size+1) 83 #[.pointer (some ⟨eb,eo+e*4,none⟩)]):=by
  have h9:=jd wS.drew #[.pointer (some ⟨sb,0,none⟩)] 50
  have h8:=jd (wS.drew.alloc (.cells #[.pointer (some ⟨sb,0,none⟩)] 50)) #[.pointer (some ⟨eb,eo+e*4,none⟩)] 83
  rw[World.size_alloc] at h8
  rw[hwL]
  exact hide ⟨h9.below ((Below.refl _ _).alloc (Nat.le_refl _) _) h9.lt,h8⟩
 have yw:=hide hlt
 have Xe:=hide hso
 have Gi:=hide hrS
 have HSS:=hide az7
 have HEB:=hide Tc
 have HHL:=hide hL
 clear hwL hL hrS Tc az7 az8 ads auw hso az6 hat
 gi_wp2
 rw[←Va]
 clear Va
 refine wpIn_wide.2 ?_
 go_region_held3 (fun w'=>w'.cell? ⟨w.heap.size,0,none⟩=some (.pointer (some ⟨sb,0,none⟩))∧w'.cell? ⟨sb,0,none⟩=some (.pointer (some ⟨nb,no,none⟩))∧w'.cell? ⟨nb,no+4,none⟩=some (.slice (some ⟨eb,eo,none⟩) x.eqs.length ec)∧w'.cell? ⟨wr.heap.size,0,none⟩=some (.int .i64 (e:Int))) (go_keep) (first|(go_at_call 29;refine(uh HRA).mono ?_;rintro e9 w2 ⟨rfl,hw2⟩;rw[hw2];clear hw2))
 gi_wp2
 have Rt:=hide ((uh HSS).below (uh HHL))
 have HR9:Hid (ada W0 wL (.pointer (some ⟨nb,no,none⟩)) (aj x) (ru x (qx x) x.eqs.length) sb vb ov D C L N x.eqs[e] eb (eo+e*4) wS.heap.size (wS.heap.size+1)):=by
  have hmem:=List.getElem_mem hlt
  have hp:=(uh HO).lp
  exact hide ⟨uh Rt,uh HAT,(uh V4).1,(uh V4).2,hp.lh _ hmem,hp.lk _ hmem,hp.cd _ hmem,hp.cl _ hmem⟩
 have auy:Hid (Gf wL w.heap.size (w.heap.size+1) (w.heap.size+3) x.eqs.length M rv R∧dh wL (w.heap.size+2) 26 #[.slice (some ⟨w.heap.size+1,0,none⟩) x.eqs.length x.eqs.length]∧dh wL wr.heap.size 3 #[.int .i64 (e:Int)]):=by
  have h1:=((uh Xe).sd.below (uh Gi)).below (uh HHL)
  have h2:=(uh Xe).Z5.below (uh Gi) (uh Xe).Z5.lt
  exact hide ⟨h1,h2.below (uh HHL) h2.lt,(uh HEB).below (uh HHL) (uh HEB).lt⟩
 have Jk:Hid (Bz w.heap.size wE wL):=hide ((uh Xe).kp.trans ((Bz.J8 (uh Gi)).trans (Bz.J8 (uh HHL))))
 refine wpIn_rangeFunc_ownF (F:=Fence.wide) rfl (by decide) (gf:=50) (lb:=#[.pointer (some ⟨wS.heap.size,0,none⟩),.pointer (some ⟨wS.heap.size+1,0,none⟩)]) rfl trivial (enters_of Tryz.func50 (by kernel_rfl) rfl) (agm W0 wL _ (aj x) (ru x (qx x) x.eqs.length) sb vb ov D C L N x.eqs[e] eb (eo+e*4) wS.heap.size (wS.heap.size+1) (uh HR9) 7 (by decide)) Bv.trans (avt (uh Rt).old.size) (Below.refl _ _) (fun _=>rfl)
  (SdJ x (ru x (qx x) x.eqs.length) w wL (w.heap.size+1) (w.heap.size+3) (w.heap.size+2) wr.heap.size e M R) (fun _ _ _=>False) SdJ.own (fun _ _ _ _ _ h _ _=>h) ?start (fun y=>{ tmps:=#[.pointer (some ⟨sb,0,none⟩),.pointer (some ⟨w.heap.size,0,none⟩),.slice none 0 0,.pointer (some ⟨w.heap.size+2,0,none⟩),.pointer (some ⟨w.heap.size+4,0,none⟩),.pointer (some ⟨wr.heap.size,0,none⟩),.string y.1,u7,undef,undef,undef,undef,.pointer (some ⟨sb,0,none⟩),.pointer (some ⟨sb,0,none⟩),.pointer (some ⟨sb,0,none⟩),.pointer (some ⟨nb,no,none⟩),.pointer (some ⟨nb,no,none⟩),.pointer (some ⟨nb,no+4,none⟩),.slice (some ⟨eb,eo,none⟩) x.eqs.length ec,.int .i64 (x.eqs.length:Int),.slice (some ⟨w.heap.size+1,0,none⟩) x.eqs.length x.eqs.length,.pointer (some ⟨sb,0,none⟩),.pointer (some ⟨sb,0,none⟩),.pointer (some ⟨sb,0,none⟩),.pointer (some ⟨nb,no,none⟩),.pointer (some ⟨nb,no,none⟩),.pointer (some ⟨nb,no+4,none⟩),.slice (some ⟨eb,eo,none⟩) x.eqs.length ec,.int .i64 (x.eqs.length:Int),.slice (some ⟨w.heap.size+3,0,none⟩) x.eqs.length x.eqs.length,.pointer (some ⟨sb,0,none⟩),.pointer (some ⟨sb,0,none⟩),.pointer (some ⟨sb,0,none⟩),.pointer (some ⟨nb,no,none⟩),.pointer (some ⟨nb,no,none⟩),.pointer (some ⟨nb,no+4,none⟩),.slice (some ⟨eb,eo,none⟩) x.eqs.length ec,.int .i64 (x.eqs.length:Int),.int .i64 (e:Int),.bool true,.int .i64 (e:Int),.pointer (some ⟨sb,0,none⟩),.pointer (some ⟨sb,0,none⟩),.pointer (some ⟨sb,0,none⟩),.pointer (some ⟨sb,0,none⟩),.pointer (some ⟨nb,no,none⟩),.pointer (some ⟨nb,no,none⟩),.pointer (some ⟨nb,no+4,none⟩),.slice (some ⟨eb,eo,none⟩) x.eqs.length ec,.int .i64 (e:Int),.pointer (some ⟨eb,eo+e*4,none⟩),.func (.func 50) #[] #[.pointer (some ⟨wS.heap.size,0,none⟩),.pointer (some ⟨wS.heap.size+1,0,none⟩)],.string y.1,u53,u54,u55,u56,u57,u58,u59,u60,u61,u62,u63,u64,u65,u66,u67,u68,u69,u70,u71,u72,u73,u74,u75,u76,u77,u78,u79,u80,undef,undef,undef,undef,undef,undef,undef,undef,undef,undef,undef,undef,undef,undef,undef,undef,undef,undef,undef,undef,undef,undef,undef,undef,undef,undef,undef,undef,undef,undef,undef,undef,undef,undef,undef,undef,undef],defers:=[] }) ?assign ?body ?done ?stop
 case start =>
  have hsm:=(uh Xe).sd
  refine⟨M,rv,R,fun _=>0,Bz.refl _ _,(uh auy).1,(uh auy).2.1,(uh auy).2.2,aum (uh Xe).rd (uh yw),fun y hy=>(by cases hy),fun _ _=>⟨Nat.zero_le _,Nat.zero_le _⟩,fun g hg h9=>?_⟩
  have h8:=(World.ownsRow.lt (hsm.own g hg) _ h9).2
  omega
 case assign =>
  intro l y W K hK
  gi_wp2
  exact hK
 case stop =>
  rintro D9 c pre W hD _ h9
  exact h9.elim
 case body =>
  rintro l pre y W hI9 hpl
  obtain⟨M1,rv1,R1,cg,hkp,hsd,hwb,hex,hrp,hcv,hle,hnx⟩:=hI9
  have ao1:=(uh Rt).keep ⟨hkp.os,hkp.tape,hkp.output,hkp.size,fun k h1 h2=>hkp.low k (Nat.lt_of_lt_of_le h1 (uh Nb).old.size) h2,hkp.other⟩
  have b1:=hkp.blk ((uh Jk).blk (uh tu).1 (by decide) (by decide)) (by decide) (by decide)
  have b4:=hkp.blk ((uh Jk).blk (uh tu).2.2 (by decide) (by decide)) (by decide) (by decide)
  have d1:=b1.cell (i:=0) (v:=.pointer (some ⟨sb,0,none⟩)) rfl
  have d3:=hwb.cell (i:=0) (v:=.slice (some ⟨w.heap.size+1,0,none⟩) x.eqs.length x.eqs.length) rfl
  have d4:=b4.cell (i:=0) (v:=.slice (some ⟨w.heap.size+3,0,none⟩) x.eqs.length x.eqs.length) rfl
  have d5:=hex.cell (i:=0) (v:=.int .i64 (e:Int)) rfl
  have s2:=ao1.tq.cell (i:=2) (v:=.map (some vb)) rfl
  have hmem:=List.getElem_mem hlt
  obtain⟨hlk,hsz⟩:=(uh HO).lp.nms _ hmem y.1 y.2
  obtain⟨dk,p,cv,Bg,hdb,_⟩:=ao1.var y.1 hsz hlk
  have d6:=hdb.cell (i:=4) (v:=.int .i64 ((ru x (qx x) x.eqs.length).getD (jc (aj x) y.1) 0)) rfl
  have hlk2:(Instr.lookup 76 (.map (some vb)) (.string y.1) false).run Tryz.prog W=.ok (.pointer (some ⟨dk,0,none⟩)) W:=Bg W (Below.refl _ _)
  have hgl:=(uh HO).lp.giv _ hlk
  obtain⟨g,hge⟩:∃g,g=(ru x (qx x) x.eqs.length).getD (jc (aj x) y.1) 0:=⟨_,rfl⟩
  rw[←hge] at d6 hgl
  by_cases hg0:0<=g
  case neg =>
   have xw:Hid (SdJ x (ru x (qx x) x.eqs.length) w wL (w.heap.size+1) (w.heap.size+3) (w.heap.size+2) wr.heap.size e M R (pre++[y]) W):=by
    refine hide ⟨M1,rv1,R1,cg,hkp,hsd,hwb,hex,hrp,fun y' hy' v hv=>?_,fun g9 Qp=>?_,hnx⟩
    ·rcases List.mem_append.1 hy' with h9|h9
     ·exact hcv y' h9 v hv
     ·rw[List.mem_singleton] at h9
      subst h9
      rw[←hge] at hv
      omega
    ·have h9:=hle g9 Qp
     rw[List.length_append,List.length_singleton]
     exact⟨by omega,h9.2⟩
   have as9:decide ((0:Int)<=g)=false:=decide_eq_false hg0
   clear hkp hsd hwb hex hrp hcv hle hnx hge hdb Bg hlk hsz hmem hgl ao1 b1 b4 hg0
   gi_wp2
   exact⟨KeepsOthers.refl _,Bv.refl _ _,uh xw⟩
  obtain⟨gn,rfl⟩:=Int.eq_ofNat_of_zero_le hg0
  have hgn:gn<x.eqs.length:=by omega
  have as9:decide ((0:Int)<=(gn:Int))=true:=by simp
  have m0:=Ji hsd.mrow e (by rw[hsd.Zf];exact hlt)
  have m0z:=hsd.mrow.free e
  have g0:=hsd.cell gn hgn
  have hme:uo M1 e=((Bd cg x.eqs.length:Nat):Int):=by rw[hrp.wt e hlt,if_pos rfl]
  have av9:pre.length<2000000:=by
   have h1:=X5 (uh HO).nb (x.eqs[e].lhs.headD ⟨#[]⟩)
   have h2:(uj (aj x) x.eqs[e]).clock.length<=8:=h1
   have h3:=(uh HO).lp.cl _ hmem
   omega
  have hsb:Bd cg x.eqs.length<=1000000000000:=by
   have h1:=aml cg 2000000 x.eqs.length (fun g9 Qp=>(hle g9 Qp).2)
   omega
  have hrl:(R1 gn).length<=2000000000:=by
   have h1:=(uh Xe).rd.len gn hgn
   have h2:=hle gn hgn
   rw[hrp.row gn hgn,List.length_append,List.length_replicate]
   omega
  have hed:D7 x (ru x (qx x) x.eqs.length) e gn:=⟨hlt,y.1,y.2,hge.symm⟩
  have az9:w.heap.size<=W.heap.size:=by
   have h1:=(uh Jk).size
   have h2:=hkp.size
   have h3:=uh HZE
   omega
  have Rh:=hide hkp
  have a0a:=hide hsd
  have xw:=hide hnx
  have HPL:=hide av9
  have Nk:=hide hsb
  have HRL:=hide hrl
  have HED:=hide hed
  have HBW:=hide az9
  have HWB:=hide hwb
  have HEX:=hide hex
  have Ya:=hide hrp
  have Zp:=hide hcv
  have HLE:=hide hle
  have HGE:=hide hge
  clear hkp hsd hwb hex hrp hcv hle hge hdb Bg hlk hsz hmem hgl ao1 hnx av9 hsb hrl hed az9
  obtain⟨W2,hW2⟩:∃z,z=W.setCell ⟨w.heap.size+1,e,none⟩ (.int .i64 (wrap64 (((Bd cg x.eqs.length:Nat):Int)+1))):=⟨_,rfl⟩
  have Oi:W.grownBy W2 (some (w.heap.size+1)):=by rw[hW2];exact H7 W ⟨w.heap.size+1,e,none⟩ _
  have hsd2:Gf W2 w.heap.size (w.heap.size+1) (w.heap.size+3) x.eqs.length (M1.set e (wrap64 (((Bd cg x.eqs.length:Nat):Int)+1))) rv1 R1:=by rw[hW2];exact(uh a0a).afx e _
  have f4:W2.cell? ⟨w.heap.size+4,0,none⟩=some (.slice (some ⟨w.heap.size+3,0,none⟩) x.eqs.length x.eqs.length):=by
   rw[hW2,World.cell?_setCell_far _ _ _ _ (by simp)];exact d4
  have f5:W2.cell? ⟨wr.heap.size,0,none⟩=some (.int .i64 (e:Int)):=by
   have hz9:=uh HZE
   have hz8:=(uh Xe).kp.size
   rw[hW2,World.cell?_setCell_far _ _ _ _ (by simp;omega)];exact d5
  have f6:=hsd2.cell gn hgn
  have Xr:Below W2.heap.size W2 (W2.alloc (.cells #[.int .i64 (e:Int)] 3)).drew:=((Below.refl _ _).alloc (Nat.le_refl _) _).drew
  have Wp:=hsd2.below Xr
  obtain⟨v5,w5,hrun5,hown5,hgr5,Vo⟩:=aey mg (W2.alloc (.cells #[.int .i64 (e:Int)] 3)).drew 26 w.heap.size (rv1 gn) (R1 gn) (Wp.own gn hgn) W2.heap.size (e:Int) (fun j u hu=>by
   have h9:=(jd W2 #[.int .i64 (e:Int)] 3).cell (i:=0) (v:=.int .i64 (e:Int)) rfl
   match j,hu with
   | 0,hu =>
    simp only[mg,List.getElem?_cons_zero,Option.some.injEq] at hu
    rw[←hu]
    exact h9
   | j+1,hu=>simp[mg] at hu) (by have:=uh HRL;show (_+1)*8<=_;omega) (by have h1:=uh HBW;have h2:=Oi.size;have h3:=Xr.size;omega)
  have Gg:=hide Xr
  have adq:dh w5 (w.heap.size+3) 26 ((List.range x.eqs.length).map rv1).toArray:=Wp.P6.grown' hgr5 (fun e9=>Wp.Zg gn hgn e9.symm)
  have f4':w5.cell? ⟨w.heap.size+4,0,none⟩=some (.slice (some ⟨w.heap.size+3,0,none⟩) x.eqs.length x.eqs.length):=by
   have h2:dh W2 (w.heap.size+4) 79 #[.slice (some ⟨w.heap.size+3,0,none⟩) x.eqs.length x.eqs.length]:=b4.grown' Oi (by simp)
   have h3:=h2.below Xr h2.lt
   exact(h3.grown' hgr5 (fun e9=>iw.Dn (Wp.own gn hgn) h3 (by decide) e9.symm)).cell (i:=0) (v:=.slice (some ⟨w.heap.size+3,0,none⟩) x.eqs.length x.eqs.length) rfl
  have f5':w5.cell? ⟨wr.heap.size,0,none⟩=some (.int .i64 (e:Int)):=by
   have hz9:=uh HZE
   have hz8:=(uh Xe).kp.size
   have h2:dh W2 wr.heap.size 3 #[.int .i64 (e:Int)]:=(uh HEX).grown' Oi (fun e9=>by have:=Option.some.inj e9;omega)
   have h3:=h2.below Xr h2.lt
   exact(h3.grown' hgr5 (fun e9=>uh xw gn hgn e9.symm)).cell (i:=0) (v:=.int .i64 (e:Int)) rfl
  have f6':w5.cell? ⟨w.heap.size+3,gn,none⟩=some (rv1 gn):=adq.cell (i:=gn) (v:=rv1 gn) (by simp[hgn])
  have f6z:w5.frozen? ⟨w.heap.size+3,gn,none⟩=false:=adq.free gn
  clear adq
  have a6k:=hide hgr5
  have a4f:=hide Vo
  have a4g:=hide hown5
  have a0b:Hid (KeepsOthers W (w5.setCell ⟨w.heap.size+3,gn,none⟩ v5)∧Bv W0.heap.size W (w5.setCell ⟨w.heap.size+3,gn,none⟩ v5)∧SdJ x (ru x (qx x) x.eqs.length) w wL (w.heap.size+1) (w.heap.size+3) (w.heap.size+2) wr.heap.size e M R (pre++[y]) (w5.setCell ⟨w.heap.size+3,gn,none⟩ v5)):=by
   have hz9:=uh HZE
   have hz8:=(uh Xe).kp.size
   refine hide (axh (A:=(W2.alloc (.cells #[.int .i64 (e:Int)] 3)).drew) (uh Rh) (uh a0a) (uh HWB) (uh HEX) (uh Ya) (uh Zp) (uh HPL) (uh HLE) (uh xw) hlt hgn (uh HED) (uh HGE).symm (uh Nk) (by omega) (by omega) (uh Nb).old.size (uh HBW) ?_ hown5 hgr5 Vo)
   rw[←hW2]
   exact Xr
  have gq:Hid ((w5.setCell ⟨w.heap.size+3,gn,none⟩ v5).cell? ⟨w.heap.size+4,0,none⟩=some (.slice (some ⟨w.heap.size+3,0,none⟩) x.eqs.length x.eqs.length)∧(w5.setCell ⟨w.heap.size+3,gn,none⟩ v5).cell? ⟨wr.heap.size,0,none⟩=some (.int .i64 (e:Int))):=by
   have hz9:=uh HZE
   have hz8:=(uh Xe).kp.size
   refine hide ⟨?_,?_⟩
   ·rw[World.cell?_setCell_far _ _ _ _ (by simp)];exact f4'
   ·rw[World.cell?_setCell_far _ _ _ _ (by simp;omega)];exact f5'
  obtain⟨va5,vc5,hv5⟩:=hown5.slice
  rw[show (R1 gn++[(e:Int)]).length=(R1 gn).length+1 from by simp] at hv5
  subst hv5
  clear hgr5 Vo hown5 Wp
  have f4a:=(Xr.cell (World.block_lt_of_cell? W2 _ f4)).trans f4
  have f5a:=(Xr.cell (World.block_lt_of_cell? W2 _ f5)).trans f5
  have f6a:=(Xr.cell (World.block_lt_of_cell? W2 _ f6)).trans f6
  clear Xr
  obtain⟨gv,hgv⟩:∃z,z=rv1 gn:=⟨_,rfl⟩
  rw[←hgv] at f6' f6a hrun5
  rw[←hgv] at f6 g0
  have a6l:=hide hsd2
  have a6m:=hide Oi
  have HGV:=hide hgv
  have hgI:(gn:Int)<(x.eqs.length:Int):=by omega
  clear hsd2 Oi hgv
  gi_wp2
  rw[←hW2]
  clear hW2 d1 d3 d4 d5 d6 s2 m0 m0z g0 hlk2
  refine akk (S:=fun w'=>w'.cell? ⟨w.heap.size+4,0,none⟩=some (.slice (some ⟨w.heap.size+3,0,none⟩) x.eqs.length x.eqs.length)∧w'.cell? ⟨wr.heap.size,0,none⟩=some (.int .i64 (e:Int))) (by kernel_rfl) ?_ ?_ ⟨f4,f5⟩ (fun hHeld=>?_)
  ·intro i9 o9 h9
   have h8:=Array.mem_of_getElem? h9
   simp only[List.mem_toArray,List.mem_cons,List.not_mem_nil,or_false] at h8
   rcases h8 with rfl|rfl|rfl|rfl|rfl|rfl|rfl|rfl|rfl|rfl|rfl<;>intro c9 hc9<;>cases hc9
  ·rintro⟨a9,w9,h9⟩
   exact h9
  refine au (i:=0) (d:=70) (v:=.slice (some ⟨w.heap.size+3,0,none⟩) x.eqs.length x.eqs.length) rfl rfl (by kernel_rfl) (by kernel_rfl) (by kernel_rfl) (fun _ _ _ h=>h) (Or.inl ⟨by kernel_rfl,fun w9 iq=>by obtain⟨e0,e1⟩:=iq;go_simp⟩) hHeld ?_
  try simp only[Act.put,List.setIfInBounds_toArray,List.set_cons_zero,List.set_cons_succ]
  refine au (i:=1) (d:=71) (v:=_) rfl rfl (by kernel_rfl) (by kernel_rfl) (by kernel_rfl) (fun _ _ _ h=>h) (Or.inl ⟨by kernel_rfl,fun _ _=>rfl⟩) hHeld ?_
  try simp only[Act.put,List.setIfInBounds_toArray,List.set_cons_zero,List.set_cons_succ]
  refine au (i:=2) (d:=72) (v:=.slice (some ⟨w.heap.size+3,0,none⟩) x.eqs.length x.eqs.length) rfl rfl (by kernel_rfl) (by kernel_rfl) (by kernel_rfl) (fun _ _ _ h=>h) (Or.inl ⟨by kernel_rfl,fun w9 iq=>by obtain⟨e0,e1⟩:=iq;go_simp⟩) hHeld ?_
  try simp only[Act.put,List.setIfInBounds_toArray,List.set_cons_zero,List.set_cons_succ]
  refine au (i:=3) (d:=73) (v:=_) rfl rfl (by kernel_rfl) (by kernel_rfl) (by kernel_rfl) (fun _ _ _ h=>h) (Or.inl ⟨by kernel_rfl,fun _ _=>rfl⟩) hHeld ?_
  try simp only[Act.put,List.setIfInBounds_toArray,List.set_cons_zero,List.set_cons_succ]
  refine au (i:=4) (d:=74) (v:=.pointer (some ⟨w.heap.size+3,gn,none⟩)) rfl rfl (by kernel_rfl) (by kernel_rfl) (by kernel_rfl) (fun _ _ _ h=>h) (Or.inl ⟨by kernel_rfl,fun w9 iq=>by obtain⟨e0,e1⟩:=iq;go_simp⟩) hHeld ?_
  try simp only[Act.put,List.setIfInBounds_toArray,List.set_cons_zero,List.set_cons_succ]
  refine au (i:=6) (d:=76) (v:=.int .i64 (e:Int)) rfl rfl (by kernel_rfl) (by kernel_rfl) (by kernel_rfl) (fun _ _ _ h=>h) (Or.inl ⟨by kernel_rfl,fun w9 iq=>by obtain⟨e0,e1⟩:=iq;go_simp⟩) hHeld ?_
  try simp only[Act.put,List.setIfInBounds_toArray,List.set_cons_zero,List.set_cons_succ]
  refine wpAnyH_ready (rs:=[5,7]) (by kernel_rfl) (by simp) ?_
  refine AllReadyH.cons rfl (fun K hK=>?_) (AllReadyH.cons rfl (fun K hK=>?_) AllReadyH.nil)
  ·go_simp
   refine hK.out _ _ ⟨f4,f5⟩ (fun hHeld=>?_)
   clear hK K
   try simp only[Act.put,List.setIfInBounds_toArray,List.set_cons_zero,List.set_cons_succ]
   refine wpAnyH_ready (rs:=[7]) (by kernel_rfl) (by simp) ?_
   refine AllReadyH.cons rfl (fun K hK=>?_) AllReadyH.nil
   go_simp
   refine hK.out _ _ ⟨f4a,f5a⟩ (fun hHeld=>?_)
   clear hK K
   try simp only[Act.put,List.setIfInBounds_toArray,List.set_cons_zero,List.set_cons_succ]
   refine wpAnyH_ready (rs:=[8]) (by kernel_rfl) (by simp) ?_
   refine AllReadyH.cons rfl (fun K hK=>?_) AllReadyH.nil
   refine Q9 rfl _ _ 26 26 rfl rfl _ _ _ rfl rfl hrun5 ?_
   refine hK.out _ _ ⟨f4',f5'⟩ (fun hHeld=>?_)
   clear hK K
   try simp only[Act.put,List.setIfInBounds_toArray,List.set_cons_zero,List.set_cons_succ]
   refine au (i:=9) (d:=79) (v:=.pointer (some ⟨w.heap.size+3,gn,none⟩)) rfl rfl (by kernel_rfl) (by kernel_rfl) (by kernel_rfl) (fun _ _ _ h=>h) (Or.inl ⟨by kernel_rfl,fun w9 iq=>by obtain⟨e0,e1⟩:=iq;go_simp⟩) hHeld ?_
   try simp only[Act.put,List.setIfInBounds_toArray,List.set_cons_zero,List.set_cons_succ]
   refine wpAnyH_ready (rs:=[10]) (by kernel_rfl) (by simp) ?_
   refine AllReadyH.cons rfl (fun K hK=>?_) AllReadyH.nil
   go_simp
   refine hK.out _ _ (uh gq) (fun hHeld=>?_)
   clear hK K
   refine wpAnyH_done (by kernel_rfl) ?_ _
   gi_wp2
   exact uh a0b
  ·go_simp
   refine hK.out _ _ ⟨f4a,f5a⟩ (fun hHeld=>?_)
   clear hK K
   try simp only[Act.put,List.setIfInBounds_toArray,List.set_cons_zero,List.set_cons_succ]
   refine wpAnyH_ready (rs:=[5]) (by kernel_rfl) (by simp) ?_
   refine AllReadyH.cons rfl (fun K hK=>?_) AllReadyH.nil
   go_simp
   refine hK.out _ _ ⟨f4a,f5a⟩ (fun hHeld=>?_)
   clear hK K
   try simp only[Act.put,List.setIfInBounds_toArray,List.set_cons_zero,List.set_cons_succ]
   refine wpAnyH_ready (rs:=[8]) (by kernel_rfl) (by simp) ?_
   refine AllReadyH.cons rfl (fun K hK=>?_) AllReadyH.nil
   refine Q9 rfl _ _ 26 26 rfl rfl _ _ _ rfl rfl hrun5 ?_
   refine hK.out _ _ ⟨f4',f5'⟩ (fun hHeld=>?_)
   clear hK K
   try simp only[Act.put,List.setIfInBounds_toArray,List.set_cons_zero,List.set_cons_succ]
   refine au (i:=9) (d:=79) (v:=.pointer (some ⟨w.heap.size+3,gn,none⟩)) rfl rfl (by kernel_rfl) (by kernel_rfl) (by kernel_rfl) (fun _ _ _ h=>h) (Or.inl ⟨by kernel_rfl,fun w9 iq=>by obtain⟨e0,e1⟩:=iq;go_simp⟩) hHeld ?_
   try simp only[Act.put,List.setIfInBounds_toArray,List.set_cons_zero,List.set_cons_succ]
   refine wpAnyH_ready (rs:=[10]) (by kernel_rfl) (by simp) ?_
   refine AllReadyH.cons rfl (fun K hK=>?_) AllReadyH.nil
   go_simp
   refine hK.out _ _ (uh gq) (fun hHeld=>?_)
   clear hK K
   refine wpAnyH_done (by kernel_rfl) ?_ _
   gi_wp2
   exact uh a0b
 case done =>
  rintro D9 ys W hD hall ⟨M',rv',R',cg,hkp,hsd,hwb,hex,hrp,hcv,hle,hne⟩ hK
  have xw:Hid (azz W0 w wE x (w.heap.size+1) (w.heap.size+3) (w.heap.size+2) (e+1) (D9::Ds) M' rv' R' W):=by
   have k1:Bz w.heap.size wr wL:=(Bz.J8 (uh Gi)).trans (Bz.J8 (uh HHL))
   have hmk:=((uh Xe).mks.keep k1).keep hkp
   have hrd:=aun (K:=2000000) (uh Xe).rd hrp (uh yw) (fun g hg he9=>by
    obtain⟨hu,nm,hnm,hG⟩:=he9
    obtain⟨y,hy,hyn⟩:=hall nm hnm
    subst hyn
    exact hcv y hy g hG) (fun g hg=>(hle g hg).2)
   rw[show e*2000000+2000000=(e+1)*2000000 from by omega] at hrd
   refine hide ⟨hsd,(uh Jk).trans hkp,⟨List.nodup_cons.2 ⟨fun h9=>?_,hmk.1⟩,fun D hD9=>?_⟩,hrd,hwb⟩
   ·have h8:=(Array.getElem?_eq_some_iff.1 (((uh Xe).mks.keep k1).2 D9 h9).2).1
    omega
   ·rcases List.mem_cons.1 hD9 with h9|h9
    ·rw[h9]
     have h8:=(uh Jk).size
     exact⟨by omega,hK⟩
    ·exact hmk.2 D h9
  clear hall hkp hsd hwb hex hrp hcv hle hne hK
  gi_wp2
  rw[←uh HKK]
  have a2o:=uh yw
  refine⟨⟨e+1,D9::Ds,M',rv',R',_,_,_,_,_,_,_,_,_,_,_,_,_,_,_,_,_,_,_,_,_,_,_,_,_,_,_,_,_,_,_,_,_,_,_,_,_,_,_,_,_,_,_,_,_,rfl,by omega,uh xw⟩,?_⟩
  show x.eqs.length-(intOf (.int .i64 ((e:Int)+1))).toNat<x.eqs.length-(intOf (.int .i64 (e:Int))).toNat
  simp only[intOf]
  omega
end Go.Proofs.YtflcnhfakcgkeaaGreat
