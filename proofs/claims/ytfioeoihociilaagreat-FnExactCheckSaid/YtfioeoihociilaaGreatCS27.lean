import Derived.Test.YtfioeoihociilaaGreatCS26
import Derived.Test.YtfioeoihociilaaGreatCE1
namespace Go.Proofs.YtfioeoihociilaaGreat
open Go.RowKit
set_option linter.unusedSimpArgs false
set_option linter.unusedVariables false
def EqPost (W : World) (ns : List DNode) (i : Nat) (x : DNode) (b o cb EB : Nat) (G : List Int) (sb vb : Nat) (ov : Value) (D : List Nat) (L : List DCond → Option Nat) (M : Nat) (R : Value) (w : World) (e : Ending) (w' : World) : Prop :=
 e = .returned R ∧ ∃ (C' L' : List DCond → Option Nat) (N' : Nat),Ck W w' ns i x b o cb EB G sb vb ov D C' L' N' ∧ N' ≤ M ∧ Turn W.heap.size w L w' L'
def clkB (vs : List DVar) (e : DEq) : Bool:=clksTo vs e.lhs (firstV vs e).clock e.lhs.length && fitsTo vs (codesOf e) (firstV vs e).clock (codesOf e).length
theorem sl_nil (w : World) : (binOp .eql 175 (.slice none 0 0) (.slice none 0 0)).run Tryz.prog w = .ok (.bool true) w:=by kernel_rfl
theorem sl_some (a : Addr) (n c : Nat) (w : World) : (binOp .eql 175 (.slice (some a) n c) (.slice none 0 0)).run Tryz.prog w = .ok (.bool false) w:=by kernel_rfl
theorem Ck.grow {W w w' : World} {ns : List DNode} {i : Nat} {x : DNode} {b o cb EB : Nat} {G : List Int} {sb vb : Nat} {ov : Value} {D : List Nat} {C L C' L' : List DCond → Option Nat} {N N' : Nat} (h : Ck W w ns i x b o cb EB G sb vb ov D C L N) (g : Grow W.heap.size w C L w' C' L') (s : Sc W w' (.pointer (some ⟨b,o + i * 5,none⟩)) .nilFunc (allV x) G sb vb ov D C' L' N') : Ck W w' ns i x b o cb EB G sb vb ov D C' L' N' :=
 ⟨s,g.blkA h.sc.trie h.blk (by decide),h.lib,h.node,h.clo⟩
set_option maxRecDepth 20000 in
set_option maxHeartbeats 8000000 in
theorem clocksFit_ok (W w : World) (ns : List DNode) (i : Nat) (x : DNode) (b o cb EB : Nat) (G : List Int) (sb vb : Nat) (ov : Value) (D : List Nat) (C L : List DCond → Option Nat) (N : Nat) (h : Ck W w ns i x b o cb EB G sb vb ov D C L N) (e : DEq) (qb qo : Nat) (he : At 4 REq W qb qo e) (hlh : 0 < e.lhs.length) (hlk : ∀ s,s ∈ e.lhs → lookN (allV x) s < (allV x).length)
  (hcd : ∀ c,c ∈ codesOf e → CdOK c) (hnm : ∀ c,c ∈ codesOf e → ∀ t,t ∈ c → t.op = 3 ∨ t.op = 23 ∨ t.op = 24 → lookN (allV x) t.name < (allV x).length) (hkl : (firstV (allV x) e).clock.length ≤ 8) (hlen : e.lhs.length ≤ 1000 ∧ (codesOf e).length ≤ 1000) (hN : N ≤ 100000000000) :
  Calls Tryz.prog 92 #[.pointer (some ⟨cb,0,none⟩),.pointer (some ⟨qb,qo,none⟩)] w (EqPost W ns i x b o cb EB G sb vb ov D L (N + 12000 * (codesOf e).length) (.bool (clkB (allV x) e)) w):=by
 have c0:=h.blk.cell (i:=0) (v:=.pointer (some ⟨sb,0,none⟩)) rfl
 have hold:=h.sc.old
 have hhd : (e.lhs.headD ⟨#[]⟩) ∈ e.lhs:=by
  cases hq : e.lhs with
  | nil => rw [hq] at hlh; simp at hlh
  | cons a r => simp
 obtain ⟨p,hp⟩ : ∃ p,C (firstV (allV x) e).clock = some p:=by
  have hl0:=hlk _ hhd
  obtain ⟨cv,p,_,hp,_⟩:=h.sc.decl _ hl0
  refine ⟨p,?_⟩
  unfold firstV lookV
  rw [dif_pos hl0]
  exact hp
 have HCO:=hide (contextOf_ok W w _ (allV x) G sb vb ov D C L N h.sc e qb qo he hlh hlk p hp)
 have HEX:=hide (fun w' (hb : Below w.heap.size w w') => expressions_in e qb qo W w' (hold.trans (hb.mono hold.size)) he)
 obtain ⟨ck,hck⟩ : ∃ z,z = (firstV (allV x) e).clock:=⟨_,rfl⟩
 obtain ⟨codes,hcodes⟩ : ∃ z,z = codesOf e:=⟨_,rfl⟩
 unfold clkB
 rw [← hcodes] at HEX hcd hnm hlen ⊢
 rw [← hck] at hp hkl ⊢
 obtain ⟨PO,hPO⟩ : ∃ PO : Ending → World → Prop,PO = EqPost W ns i x b o cb EB G sb vb ov D L (N + 12000 * codes.length) (.bool (clksTo (allV x) e.lhs ck e.lhs.length && fitsTo (allV x) codes ck codes.length)) w:=⟨_,rfl⟩
 rw [← hPO]
 have HPO:=hide hPO
 clear hPO hck hcodes
 obtain ⟨lhs,code,s,args⟩:=e
 obtain ⟨hbl,cs,hl,hc,x1,x2,x3,rfl,hs,h1,h2,h3⟩:=he
 simp only at *
 obtain ⟨b1,cc1,rfl⟩:=h1.shape
 have k0:=(hold.cell (p:=⟨qb,_,none⟩) hbl).trans (hc 0 (by simp))
 simp only [List.getElem_cons_zero,List.getElem_cons_succ,Nat.add_zero] at k0
 have HH:=hide h
 have H1:=hide h1
 have HP:=hide hp
 have HLK:=hide hlk
 have HCD:=hide hcd
 have HNM:=hide hnm
 have HKL:=hide hkl
 have HN:=hide hN
 have hln1:=hlen.1
 have hln2:=hlen.2
 have HCEL : Hid (∀ w',Below w.heap.size w w' → w'.cell? ⟨cb,0,none⟩ = some (.pointer (some ⟨sb,0,none⟩)) ∧ w'.cell? ⟨qb,qo,none⟩ = some (.slice b1 lhs.length cc1)):=fun w' hb => by
  have hk : ∀ {p : Addr} {v : Value},w.cell? p = some v → w'.cell? p = some v:=fun {p v} h9 => (hb.cell (World.block_lt_of_cell? w _ h9)).trans h9
  exact ⟨hk c0,hk k0⟩
 clear h hc hl hs h1 h2 h3 hlk hcd hnm hkl hN hlen hp hhd hbl hlh hold k0
 go_enter Tryz.func92,Tryz.ntmps92
 go_wp2_with fail
 refine (uh HCO).mono ?_
 rintro e9 w1 ⟨rfl,hb1⟩
 have HB1:=hide hb1
 obtain ⟨_,k0⟩:=uh HCEL w1 hb1
 clear hb1 c0 HCO
 go_wp2
 clear k0
 go_loopg [21] lhs.length (fun gm iv wr => ∃ k : Nat,k ≤ lhs.length ∧ gm = lhs.length - k ∧ iv = .int .i64 k ∧ Below w.heap.size w wr ∧ clksTo (allV x) lhs ck k = true)
 case atStart => exact ⟨0,Nat.zero_le _,by omega,rfl,uh HB1,rfl⟩
 case round =>
  obtain ⟨k,hk,hgm,rfl,hb,hty⟩:=hrel
  rename World => wr
  have HG:=hide hgm
  have HB:=hide hb
  have HTY:=hide hty
  clear hgm hty HB1
  by_cases hlt : k < lhs.length
  case neg =>
   have hke : k = lhs.length:=by omega
   rw [hke] at HTY
   have hkI : ¬ (k : Int) < (lhs.length : Int):=by omega
   have HE1:=hide (uh HEX wr hb)
   clear hke hb HEX hlt
   go_wp2_with fail
   refine (uh HE1).mono ?_
   rintro e9 w2 ⟨vv,rfl,hcs,hb2⟩
   have HB2:=hide ((uh HB).trans (hb2.mono (uh HB).size))
   obtain ⟨va,vc,hvv⟩ : ∃ a c,vv = .slice a codes.length c:=by
    obtain ⟨a,c,h9,_⟩:=hcs
    exact ⟨a,c,h9⟩
   subst hvv
   have HCS:=hide hcs
   clear hb2 hcs HE1 HG hkI
   go_wp2
   go_loopg [43] codes.length (fun gm iv wr => ∃ (k : Nat) (C' L' : List DCond → Option Nat) (N' : Nat),k ≤ codes.length ∧ gm = codes.length - k ∧ iv = .int .i64 k ∧ Ck W wr ns i x b o cb EB G sb vb ov D C' L' N' ∧ Grow W.heap.size w C L wr C' L' ∧ CodesAt W wr (.slice va codes.length vc) codes ∧ N' ≤ N + 12000 * k ∧ fitsTo (allV x) codes ck k = true)
   case atStart => exact ⟨0,C,L,N,Nat.zero_le _,by omega,rfl,(uh HH).below (uh HB2),Grow.of_below (uh HB2) (uh HH).sc.old.size,uh HCS,by omega,rfl⟩
   case round =>
    clear HB HCS hk
    obtain ⟨k,C',L',N',hk,hgm,rfl,hckr,hgr,hcsr,hNr,hfr⟩:=hrel
    rename World => wr
    have HG:=hide hgm
    have HCKR:=hide hckr
    have HGR:=hide hgr
    have HNR:=hide hNr
    have HFR:=hide hfr
    clear hgm hfr
    by_cases hlt : k < codes.length
    case neg =>
     have hke : k = codes.length:=by omega
     have HFIN : Hid (PO (.returned (.bool true)) wr):=by
      rw [uh HPO,uh HTY,← hke,uh HFR]
      exact hide ⟨rfl,C',L',N',hckr,hNr,Turn.of_grow hgr⟩
     have hkI : ¬ (k : Int) < (codes.length : Int):=by omega
     clear hke hckr hgr hcsr hNr hlt
     go_wp2
     exact uh HFIN
    have hkI : (k : Int) < (codes.length : Int):=by omega
    have HCSR:=hide hcsr
    obtain ⟨_,_,hv9,hx9⟩:=hcsr
    simp only [Value.slice.injEq] at hv9
    obtain ⟨rfl,hq9,rfl⟩:=hv9
    clear hq9
    obtain ⟨g,go_,cv,rfl,l0,hcv,_⟩:=hx9 k hlt
    have z0:=hckr.blk.cell (i:=0) (v:=.pointer (some ⟨sb,0,none⟩)) rfl
    have hNN:=uh HN
    have hcdk:=uh HCD _ (List.getElem_mem hlt)
    have h6:=hcdk.2.2
    have HCX:=hide (contexts_ok W wr _ (allV x) G sb vb ov D C' L' N' hckr.sc codes[k] cv hcv hcdk (uh HNM _ (List.getElem_mem hlt)) ck p (hgr.c _ _ (uh HP)) (uh HKL) (by unfold maxLen; omega))
    obtain ⟨ca,cc,rfl⟩:=hcv.shape
    have HNO : Hid (fitV (allV x) codes[k] ck = false → fitsTo (allV x) codes ck codes.length = false):=fits_no (allV x) codes ck k hlt
    have HYS : Hid (fitV (allV x) codes[k] ck = true → fitsTo (allV x) codes ck (k + 1) = true):=fits_yes (allV x) codes ck k hlt (uh HFR)
    have HC6:=hide h6
    have HLT:=hide hlt
    generalize fitV (allV x) codes[k] ck = fv at *
    generalize codes[k].length = ckl at *
    clear hx9 hcv hcdk h6 hckr hgr hNr hlt hNN
    cases fv
    ·have HFIN : Hid (∀ w' C2 L2 N2,Ck W w' ns i x b o cb EB G sb vb ov D C2 L2 N2 → N2 ≤ N + 12000 * codes.length → Grow W.heap.size w C L w' C2 L2 → PO (.returned (.bool false)) w'):=fun w' C2 L2 N2 g1 g2 g3 => by
      rw [uh HPO,uh HNO rfl,Bool.and_false]
      exact ⟨rfl,C2,L2,N2,g1,g2,Turn.of_grow g3⟩
     clear HNO HYS
     go_wp2_with fail
     refine (uh HCX).mono ?_
     rintro e9 w3 ⟨v9,C2,L2,N2,rfl,hs2,hn2,hg2,_,hv2⟩
     have hve:=hv2 rfl
     subst hve
     have HE:=hide (uh HFIN w3 C2 L2 N2 ((uh HCKR).grow hg2 hs2) (by
      have a1:=uh HNR
      have a2:=uh HC6
      have a3:=uh HLT
      omega) ((uh HGR).trans hg2))
     have hsl:=sl_nil w3
     clear hs2 hn2 hg2 hv2 HFIN HCX
     go_wp2
     exact uh HE
    ·have HYS1:=hide (uh HYS rfl)
     clear HNO HYS
     go_wp2_with fail
     refine (uh HCX).mono ?_
     rintro e9 w3 ⟨v9,C2,L2,N2,rfl,hs2,hn2,hg2,hv2,_⟩
     obtain ⟨fb9,hve⟩:=hv2 rfl
     subst hve
     have HE : Hid (Ck W w3 ns i x b o cb EB G sb vb ov D C2 L2 N2 ∧ Grow W.heap.size w C L w3 C2 L2 ∧ CodesAt W w3 (.slice (some ⟨g,go_,none⟩) codes.length vc) codes ∧ N2 ≤ N + 12000 * (k + 1)):=hide ⟨(uh HCKR).grow hg2 hs2,(uh HGR).trans hg2,(uh HCSR).grow hg2 (uh HCKR).sc.trie,by
      have a1:=uh HNR
      have a2:=uh HC6
      omega⟩
     have hsl:=sl_some ⟨fb9,0,none⟩ ckl ckl w3
     clear hs2 hn2 hg2 hv2 HCX
     go_wp2
     go_roundg (codes.length - (k + 1))
     case measure =>
      have h8:=uh HLT
      have h9:=uh HG
      omega
     case rel => exact ⟨k + 1,C2,L2,N2,uh HLT,rfl,by go_num,(uh HE).1,(uh HE).2.1,(uh HE).2.2.1,(uh HE).2.2.2,uh HYS1⟩
  have hkI : (k : Int) < (lhs.length : Int):=by omega
  have hckr:=(uh HH).below hb
  have hold:=hckr.sc.old
  obtain ⟨z0,_⟩:=uh HCEL wr hb
  obtain ⟨_,_,hv8,_,_,hx8⟩:=(uh H1).stays RStr_kept hold
  simp only [Value.slice.injEq] at hv8
  obtain ⟨rfl,hq9,rfl⟩:=hv8
  clear hq9
  obtain ⟨lb2,lo2,ls2,rfl,_,hlb2,hls2,hlc2,rfl,hln9⟩:=hx8 k hlt
  have l0:=hlc2 0 (by simp)
  simp only [Nat.mul_one,Nat.add_zero,List.getElem_cons_zero,List.getElem_cons_succ] at l0
  have hnmk : lhs[k].size ≤ maxLen:=by unfold Len at hln9; unfold maxLen; omega
  obtain ⟨dk,p1,cv,hlk1,hdb,hp1⟩:=hckr.sc.var lhs[k] hnmk (uh HLK _ (List.getElem_mem _))
  have d3:=hdb.cell (i:=3) (v:=.pointer (some ⟨p1,0,none⟩)) rfl
  have s2:=hckr.sc.sblk.cell (i:=2) (v:=.map (some vb)) rfl
  have hlk2 : (Instr.lookup 84 (.map (some vb)) (.string lhs[k]) false).run Tryz.prog wr = .ok (.pointer (some ⟨dk,0,none⟩)) wr:=hlk1 wr (Below.refl _ _)
  have hneq:=hckr.sc.trie.neq hp1 (uh HP)
  have HNO : Hid (sameC (clkOf (allV x) lhs[k]) ck = false → clksTo (allV x) lhs ck lhs.length = false):=clks_no (allV x) lhs ck k hlt
  have HYS : Hid (sameC (clkOf (allV x) lhs[k]) ck = true → clksTo (allV x) lhs ck (k + 1) = true):=clks_yes (allV x) lhs ck k hlt (uh HTY)
  have HLT:=hide hlt
  have HCKR:=hide hckr
  generalize sameC (clkOf (allV x) lhs[k]) ck = sv at *
  generalize lhs[k] = nm at *
  clear hlk1 hdb hx8 hlc2 hls2 hold hckr hb hp1 hlb2 hln9 hnmk hlt
  cases sv
  ·have HFIN : Hid (PO (.returned (.bool false)) wr):=by
    rw [uh HPO,uh HNO rfl,Bool.false_and]
    exact hide ⟨rfl,C,L,N,uh HCKR,by omega,Turn.of_below (uh HB) (uh HH).sc.old.size⟩
   clear HNO HYS
   simp only [Bool.not_false] at hneq
   go_wp2
   exact uh HFIN
  ·have HYS1:=hide (uh HYS rfl)
   clear HNO HYS
   simp only [Bool.not_true] at hneq
   go_wp2
   go_roundg (lhs.length - (k + 1))
   case measure =>
    have h8:=uh HLT
    have h9:=uh HG
    omega
   case rel => exact ⟨k + 1,uh HLT,rfl,by go_num,uh HB,uh HYS1⟩
set_option maxRecDepth 20000 in
set_option maxHeartbeats 8000000 in
theorem typesFit_call (W w : World) (ns : List DNode) (i : Nat) (x : DNode) (b o cb EB : Nat) (G : List Int) (sb vb : Nat) (ov : Value) (D : List Nat) (C L : List DCond → Option Nat) (N : Nat) (h : Ck W w ns i x b o cb EB G sb vb ov D C L N) (hin : i ≤ ns.length) (hns : ∀ j (hj : j < ns.length),At 5 RNode W b (o + j * 5) ns[j]) (e : DEq) (qb qo : Nat) (he : At 4 REq W qb qo e)
  (hg : ¬ e.call.size = 0) (hcb : callB ns i e = true) (hlk : ∀ s,s ∈ e.lhs → lookN (allV x) s < (allV x).length) (hcd : ∀ c,c ∈ e.args → CdOK c) (hal : e.args.length ≤ 1000 ∧ e.lhs.length ≤ 1000) :
  Calls Tryz.prog 91 #[.pointer (some ⟨cb,0,none⟩),.pointer (some ⟨qb,qo,none⟩)] w (Ans (.bool (typB ns i (allV x) e)) w):=by
 have c0:=h.blk.cell (i:=0) (v:=.pointer (some ⟨sb,0,none⟩)) rfl
 have c1:=h.blk.cell (i:=1) (v:=.map (some EB)) rfl
 have s2:=h.sc.sblk.cell (i:=2) (v:=.map (some vb)) rfl
 have hold:=h.sc.old
 obtain ⟨lhs,code,s,args⟩:=e
 obtain ⟨hbl,cs,hl,hc,x1,x2,x3,rfl,hs,h1,h2,h3⟩:=he
 simp only at *
 have hsm : s.size ≤ maxLen:=by unfold Len at hs; unfold maxLen; omega
 rcases h.called hin hns s hsm with ⟨hf,hlk⟩ | ⟨j,hj,m,hf,hlb,m0,a1,cc4,a2,cc5,n1,n2,hi1,hi2⟩
 ·exfalso
  unfold callB at hcb
  rw [if_neg hg] at hcb
  cases hq : ns[(findI ns i s).toNat]? with
  | none => rw [hq] at hcb; cases hcb
  | some g => rw [hq] at hcb; simp [hf] at hcb
 have hcb2 : ns[j].ins.length = args.length ∧ ns[j].outs.length = lhs.length:=by
  unfold callB at hcb
  rw [if_neg hg] at hcb
  simp only [hf,Int.toNat_natCast,List.getElem?_eq_getElem hj,decide_eq_true_iff] at hcb
  omega
 have HRR : Hid (typB ns i (allV x) ⟨lhs,code,s,args⟩ = (tysTo (allV x) args (ns[j].ins.map (·.type)) args.length && outsTo (allV x) lhs (ns[j].outs.map (·.type)) lhs.length)):=by
  refine hide ?_
  unfold typB
  rw [if_neg hg]
  simp only [hf,Int.toNat_natCast,List.getElem?_eq_getElem hj]
 generalize ns[j].ins = gi at *
 generalize ns[j].outs = go at *
 obtain ⟨e1,e2⟩:=hcb2
 have E1:=hide e1
 have E2:=hide e2
 rw [e1] at n1 hi1
 rw [e2] at n2 hi2
 obtain ⟨b1,cc1,rfl⟩:=h1.shape
 obtain ⟨b3,cc3,rfl⟩:=h3.shape
 have k0:=(hold.cell (p:=⟨qb,_,none⟩) hbl).trans (hc 0 (by simp))
 have k2:=(hold.cell (p:=⟨qb,_,none⟩) hbl).trans (hc 2 (by simp))
 have k3:=(hold.cell (p:=⟨qb,_,none⟩) hbl).trans (hc 3 (by simp))
 simp only [List.getElem_cons_zero,List.getElem_cons_succ,Nat.add_zero] at k0 k2 k3
 have hlb0:=hlb 0
 have hlb9 : (Instr.lookup 40 (.map (some EB)) (.string s) false).run Tryz.prog w = .ok (.pointer (some ⟨m,0,none⟩)) w:=hlb0
 have d4:=empty_no s hg
 have d4':=isEmpty_no s hg
 have hal1:=hal.1
 have hal2:=hal.2
 have HH:=hide h
 have H1:=hide h1
 have H3:=hide h3
 have HI1:=hide hi1
 have HI2:=hide hi2
 have HLK:=hide hlk
 have HCD:=hide hcd
 generalize o + j * 5 = oj at *
 have HCEL : Hid (∀ w',Below w.heap.size w w' → w'.cell? ⟨cb,0,none⟩ = some (.pointer (some ⟨sb,0,none⟩)) ∧ w'.cell? ⟨sb,2,none⟩ = some (.map (some vb)) ∧ w'.cell? ⟨qb,qo,none⟩ = some (.slice b1 lhs.length cc1) ∧ w'.cell? ⟨qb,qo + 3,none⟩ = some (.slice b3 args.length cc3) ∧ w'.cell? ⟨b,oj + 2,none⟩ = some (.slice a2 lhs.length cc5)):=fun w' hb => by
  have hk : ∀ {p : Addr} {v : Value},w.cell? p = some v → w'.cell? p = some v:=fun {p v} h9 => (hb.cell (World.block_lt_of_cell? w _ h9)).trans h9
  exact ⟨hk c0,hk s2,hk k0,hk k3,hk n2⟩
 obtain ⟨PO,hPO⟩ : ∃ PO : Ending → World → Prop,PO = Ans (.bool (typB ns i (allV x) ⟨lhs,code,s,args⟩)) w:=⟨_,rfl⟩
 rw [← hPO]
 have HPO : Hid (PO = Ans (.bool (tysTo (allV x) args (gi.map (·.type)) args.length && outsTo (allV x) lhs (go.map (·.type)) lhs.length)) w):=by rw [hPO,uh HRR]; exact hide rfl
 clear h hc hl hs h1 h2 h3 hi1 hi2 hlk hcd hf hg hcb hsm hal hPO HRR e1 e2 hlb0 hj hns hin
 go_enter Tryz.func91,Tryz.ntmps91
 go_wp2_with fail
 go_quiet ((fail))
 go_wp2
 clear hlb hlb9 c0 c1 s2 k0 k2 k3 m0 n1 n2
 go_loopg [60] args.length (fun gm iv wr => ∃ k : Nat,k ≤ args.length ∧ gm = args.length - k ∧ iv = .int .i64 k ∧ Below w.heap.size w wr ∧ tysTo (allV x) args (gi.map (·.type)) k = true)
 case atStart => exact ⟨0,Nat.zero_le _,by omega,rfl,below_dN (Below.refl _ _) _,rfl⟩
 case round =>
  obtain ⟨k,hk,hgm,rfl,hb,hty⟩:=hrel
  rename World => wr
  have HG:=hide hgm
  have HB:=hide hb
  have HTY:=hide hty
  clear hgm hty
  by_cases hlt : k < args.length
  case neg =>
   have hke : k = args.length:=by omega
   rw [hke] at HTY
   have hkI : ¬ (k : Int) < (args.length : Int):=by omega
   obtain ⟨z0,z1,z2,z3,z4⟩:=uh HCEL wr hb
   clear hke hb z0 z1 z2 z3
   go_wp2
   clear z4 hkI
   go_loopg [86] lhs.length (fun gm iv wr => ∃ k : Nat,k ≤ lhs.length ∧ gm = lhs.length - k ∧ iv = .int .i64 k ∧ Below w.heap.size w wr ∧ outsTo (allV x) lhs (go.map (·.type)) k = true)
   case atStart => exact ⟨0,Nat.zero_le _,by omega,rfl,uh HB,rfl⟩
   case round =>
    clear HB HG hk hlt
    obtain ⟨k,hk,hgm,rfl,hb,hou⟩:=hrel
    rename World => wr
    have HG:=hide hgm
    have HB:=hide hb
    have HOU:=hide hou
    clear hgm hou
    by_cases hlt : k < lhs.length
    case neg =>
     have hke : k = lhs.length:=by omega
     have HFIN : Hid (PO (.returned (.bool true)) wr):=by
      rw [uh HPO,uh HTY,← hke,uh HOU]
      exact hide ⟨rfl,hb⟩
     have hkI : ¬ (k : Int) < (lhs.length : Int):=by omega
     clear hke hb
     go_wp2
     exact uh HFIN
    have hkI : (k : Int) < (lhs.length : Int):=by omega
    have hck:=(uh HH).below hb
    have hold:=hck.sc.old
    obtain ⟨z0,z1,z2,z3,z4⟩:=uh HCEL wr hb
    obtain ⟨_,_,hv9,_,_,hx9⟩:=(uh HI2).stays RVar_kept hold
    simp only [Value.slice.injEq] at hv9
    obtain ⟨rfl,hq9,rfl⟩:=hv9
    clear hq9
    have hlg : k < go.length:=by have:=uh E2; omega
    obtain ⟨vb2,vo2,cs2,rfl,_,hvb2,hcs2,hcc2,cl2,rfl,_,_,hcl2⟩:=hx9 k hlg
    obtain ⟨xa2,xc2,rfl⟩:=hcl2.shape
    have y0:=hcc2 0 (by simp)
    have y1:=hcc2 1 (by simp)
    have y2:=hcc2 2 (by simp)
    obtain ⟨_,_,hv8,_,_,hx8⟩:=(uh H1).stays RStr_kept hold
    simp only [Value.slice.injEq] at hv8
    obtain ⟨rfl,hq9,rfl⟩:=hv8
    clear hq9
    obtain ⟨lb2,lo2,ls2,rfl,_,hlb2,hls2,hlc2,rfl,hln2⟩:=hx8 k hlt
    have l0:=hlc2 0 (by simp)
    simp only [Nat.mul_one,Nat.add_zero,List.getElem_cons_zero,List.getElem_cons_succ] at y0 y1 y2 l0
    have hnm : lhs[k].size ≤ maxLen:=by unfold Len at hln2; unfold maxLen; omega
    obtain ⟨dk,p,cv,hlk1,hdb,_⟩:=hck.sc.var lhs[k] hnm (uh HLK _ (List.getElem_mem _))
    have d1:=hdb.cell (i:=1) (v:=.int .i64 (lookV (allV x) lhs[k]).type) rfl
    have HNO : Hid ((lookV (allV x) lhs[k]).type ≠ go[k].type → outsTo (allV x) lhs (go.map (·.type)) lhs.length = false):=fun h9 => outs_no (allV x) lhs (go.map (·.type)) k hlt (by rw [List.length_map]; exact hlg) (by simpa using h9)
    have HYS : Hid ((lookV (allV x) lhs[k]).type = go[k].type → outsTo (allV x) lhs (go.map (·.type)) (k + 1) = true):=fun h9 => outs_yes (allV x) lhs (go.map (·.type)) k hlt (by rw [List.length_map]; exact hlg) (uh HOU) (by simpa using h9)
    have hA : Below wr.heap.size wr (wr.alloc (.cells #[.string go[k].name,.int .i64 go[k].type,.slice xa2 go[k].clock.length xc2] 63)):=(Below.refl _ _).alloc (Nat.le_refl _) _
    have bx:=(blk_box wr #[.string go[k].name,.int .i64 go[k].type,.slice xa2 go[k].clock.length xc2] 63).cell (i:=1) (v:=.int .i64 go[k].type) rfl
    have hkA : ∀ {p : Addr} {v : Value},wr.cell? p = some v → (wr.alloc (.cells #[.string go[k].name,.int .i64 go[k].type,.slice xa2 go[k].clock.length xc2] 63)).cell? p = some v:=fun {p v} h9 => (hA.cell (World.block_lt_of_cell? wr _ h9)).trans h9
    have za:=hkA z0
    have zb:=hkA z1
    have zc:=hkA z2
    have zd:=hkA l0
    have ze:=hkA d1
    have hlk2 : ∀ nq,(Instr.lookup 84 (.map (some vb)) (.string lhs[k]) false).run Tryz.prog ((wr.alloc (.cells #[.string go[k].name,.int .i64 go[k].type,.slice xa2 go[k].clock.length xc2] 63)).drewN nq) = .ok (.pointer (some ⟨dk,0,none⟩)) ((wr.alloc (.cells #[.string go[k].name,.int .i64 go[k].type,.slice xa2 go[k].clock.length xc2] 63)).drewN nq):=fun nq => hlk1 _ (below_dN hA nq)
    have HBA:=hide (hb.trans (hA.mono hb.size))
    have HLT:=hide hlt
    clear hkA hlk1 hdb hx8 hx9 hcc2 hlc2 hcs2 hls2 hA hold hck hb hcl2 z0 z1 z2 z3 z4 l0 d1 hvb2 hlb2 hln2 hnm
    generalize (lookV (allV x) lhs[k]).type = vt at *
    generalize go[k].name = gn at *
    generalize hgty : go[k].type = gt at *
    generalize go[k].clock.length = gcl at *
    generalize lhs[k] = nm at *
    clear hgty hlg hlt
    by_cases he : vt = gt
    ·have HYS1:=hide (uh HYS he)
     subst he
     have q1 : (vt == vt) = true:=by simp
     have q2 : (vt != vt) = false:=by simp
     clear HYS HNO
     go_wp2_with fail
     go_quiet ((fail))
     go_wp2
     go_roundg (lhs.length - (k + 1))
     case measure =>
      have h8:=uh HLT
      have h9:=uh HG
      omega
     case rel => exact ⟨k + 1,uh HLT,rfl,by go_num,below_dN (uh HBA) _,uh HYS1⟩
    ·have HFIN : Hid (∀ w',Below w.heap.size w w' → PO (.returned (.bool false)) w'):=fun w' hb' => by
      rw [uh HPO,uh HNO he,Bool.and_false]
      exact ⟨rfl,hb'⟩
     have q1 : (vt == gt) = false:=by rw [beq_eq_false_iff_ne]; exact he
     have q2 : (vt != gt) = true:=by rw [bne_iff_ne]; exact he
     clear HYS HNO he
     go_wp2_with fail
     go_quiet ((fail))
     go_wp2
     exact uh HFIN _ (below_dN (uh HBA) _)
  have hkI : (k : Int) < (args.length : Int):=by omega
  have hck:=(uh HH).below hb
  have hold:=hck.sc.old
  obtain ⟨z0,z1,z2,z3,z4⟩:=uh HCEL wr hb
  obtain ⟨_,_,hv9,_,_,hx9⟩:=(uh HI1).stays RVar_kept hold
  simp only [Value.slice.injEq] at hv9
  obtain ⟨rfl,hq9,rfl⟩:=hv9
  clear hq9
  have hlg : k < gi.length:=by have:=uh E1; omega
  obtain ⟨vb2,vo2,cs2,rfl,_,hvb2,hcs2,hcc2,cl2,rfl,_,_,hcl2⟩:=hx9 k hlg
  obtain ⟨xa2,xc2,rfl⟩:=hcl2.shape
  have y0:=hcc2 0 (by simp)
  have y1:=hcc2 1 (by simp)
  have y2:=hcc2 2 (by simp)
  obtain ⟨_,_,hv8,_,_,hx8⟩:=uh H3
  simp only [Value.slice.injEq] at hv8
  obtain ⟨rfl,hq9,rfl⟩:=hv8
  clear hq9
  obtain ⟨lb2,lo2,ls2,rfl,_,hlb2,hls2,hlc2,av,rfl,hav⟩:=hx8 k hlt
  obtain ⟨aa,ac,rfl⟩:=hav.shape
  have l0:=(hold.cell (p:=⟨lb2,_,none⟩) hlb2).trans (hlc2 0 (by simp))
  simp only [Nat.mul_one,Nat.add_zero,List.getElem_cons_zero,List.getElem_cons_succ] at y0 y1 y2 l0
  have HNO : Hid (tyV (allV x) args[k] ≠ gi[k].type → tysTo (allV x) args (gi.map (·.type)) args.length = false):=fun h9 => tys_no (allV x) args (gi.map (·.type)) k hlt (by rw [List.length_map]; exact hlg) (by simpa using h9)
  have HYS : Hid (tyV (allV x) args[k] = gi[k].type → tysTo (allV x) args (gi.map (·.type)) (k + 1) = true):=fun h9 => tys_yes (allV x) args (gi.map (·.type)) k hlt (by rw [List.length_map]; exact hlg) (uh HTY) (by simpa using h9)
  have hA : Below wr.heap.size wr (wr.alloc (.cells #[.string gi[k].name,.int .i64 gi[k].type,.slice xa2 gi[k].clock.length xc2] 63)):=(Below.refl _ _).alloc (Nat.le_refl _) _
  have hbx:=blk_box wr #[.string gi[k].name,.int .i64 gi[k].type,.slice xa2 gi[k].clock.length xc2] 63
  have bx:=hbx.cell (i:=1) (v:=.int .i64 gi[k].type) rfl
  have HTO:=hide (typeOf_in W wr _ (allV x) G sb vb ov D C L N hck.sc args[k] _ hav (uh HCD _ (List.getElem_mem _)))
  have hkA : ∀ {p : Addr} {v : Value},wr.cell? p = some v → (wr.alloc (.cells #[.string gi[k].name,.int .i64 gi[k].type,.slice xa2 gi[k].clock.length xc2] 63)).cell? p = some v:=fun {p v} h9 => (hA.cell (World.block_lt_of_cell? wr _ h9)).trans h9
  have za:=hkA z0
  have zc:=hkA z3
  have zd:=hkA l0
  have HBA:=hide (hb.trans (hA.mono hb.size))
  have HLT:=hide hlt
  obtain ⟨wA,hwA⟩ : ∃ z,z = wr.alloc (.cells #[.string gi[k].name,.int .i64 gi[k].type,.slice xa2 gi[k].clock.length xc2] 63):=⟨_,rfl⟩
  rw [← hwA] at hA hbx bx za zc zd HBA
  have HT : Hid (Calls Tryz.prog 115 #[.pointer (some ⟨sb,0,none⟩),.slice aa args[k].length ac] wA.drew fun e w' => e = .returned (.int .i64 (tyV (allV x) args[k])) ∧ Hid (Below w.heap.size w w') ∧ w'.cell? ⟨cb,0,none⟩ = some (.pointer (some ⟨sb,0,none⟩)) ∧ w'.cell? ⟨qb,qo + 3,none⟩ = some (.slice (some ⟨lb2,lo2,none⟩) args.length cc3) ∧ w'.cell? ⟨lb2,lo2 + k,none⟩ = some (.slice aa args[k].length ac) ∧ w'.cell? ⟨wr.heap.size,1,none⟩ = some (.int .i64 gi[k].type)):=by
   refine hide ((uh HTO wA.drew hA.drew).mono ?_)
   rintro e w' ⟨rfl,hb1⟩
   have hb2:=below_drew_l hb1
   have hkB : ∀ {p : Addr} {v : Value},wA.cell? p = some v → w'.cell? p = some v:=fun {p v} h9 => (hb2.cell (World.block_lt_of_cell? wA _ h9)).trans h9
   exact ⟨rfl,(uh HBA).trans (hb2.mono (uh HBA).size),hkB za,hkB zc,hkB zd,hkB bx⟩
  subst hwA
  clear hkA hx8 hx9 hcc2 hlc2 hcs2 hls2 hA hold hck hb hcl2 z0 z1 z2 z3 z4 l0 hvb2 hlb2 hav HTO hbx
  generalize tyV (allV x) args[k] = vt at *
  generalize gi[k].name = gn at *
  generalize hgty : gi[k].type = gt at *
  generalize gi[k].clock.length = gcl at *
  generalize args[k].length = akl at *
  clear hgty hlg hlt
  by_cases he : vt = gt
  ·have HYS1:=hide (uh HYS he)
   subst he
   have q1 : (vt == vt) = true:=by simp
   have q2 : (vt != vt) = false:=by simp
   clear HYS HNO
   go_wp2_with fail
   generalize wr.alloc (.cells #[.string gn,.int .i64 vt,.slice xa2 gcl xc2] 63) = wA at *
   go_region_held3 (fun w' => w'.cell? ⟨cb,0,none⟩ = some (.pointer (some ⟨sb,0,none⟩)) ∧ w'.cell? ⟨qb,qo + 3,none⟩ = some (.slice (some ⟨lb2,lo2,none⟩) args.length cc3) ∧ w'.cell? ⟨lb2,lo2 + k,none⟩ = some (.slice aa akl ac) ∧ w'.cell? ⟨wr.heap.size,1,none⟩ = some (.int .i64 vt)) (go_keep) (first | (go_at_call 115; refine (uh HT).mono ?_; rintro e w1 ⟨rfl,HB1,z0,z1,z2,z3⟩; clear HT))
   all_goals
    clear z0 z1 z2 z3 za zc zd bx
    go_wp2
    go_roundg (args.length - (k + 1))
    case measure =>
     have h8:=uh HLT
     have h9:=uh HG
     omega
    case rel => exact ⟨k + 1,uh HLT,rfl,by go_num,uh HB1,uh HYS1⟩
  ·have HFIN : Hid (∀ w',Below w.heap.size w w' → PO (.returned (.bool false)) w'):=fun w' hb' => by
    rw [uh HPO,uh HNO he,Bool.false_and]
    exact ⟨rfl,hb'⟩
   have q1 : (vt == gt) = false:=by rw [beq_eq_false_iff_ne]; exact he
   have q2 : (vt != gt) = true:=by rw [bne_iff_ne]; exact he
   clear HYS HNO he
   go_wp2_with fail
   generalize wr.alloc (.cells #[.string gn,.int .i64 gt,.slice xa2 gcl xc2] 63) = wA at *
   go_region_held3 (fun w' => w'.cell? ⟨cb,0,none⟩ = some (.pointer (some ⟨sb,0,none⟩)) ∧ w'.cell? ⟨qb,qo + 3,none⟩ = some (.slice (some ⟨lb2,lo2,none⟩) args.length cc3) ∧ w'.cell? ⟨lb2,lo2 + k,none⟩ = some (.slice aa akl ac) ∧ w'.cell? ⟨wr.heap.size,1,none⟩ = some (.int .i64 gt)) (go_keep) (first | (go_at_call 115; refine (uh HT).mono ?_; rintro e w1 ⟨rfl,HB1,z0,z1,z2,z3⟩; clear HT))
   all_goals
    clear z0 z1 z2 z3 za zc zd bx
    go_wp2
    exact uh HFIN _ (uh HB1)
end Go.Proofs.YtfioeoihociilaaGreat
