import Derived.Test.YtfioeoihociilaaGreatCS27
import Derived.Test.YtfioeoihociilaaGreatWgtD
namespace Go.Proofs.YtfioeoihociilaaGreat
open Go.RowKit
set_option linter.unusedSimpArgs false
set_option linter.unusedVariables false
theorem cd_ok {c : List DItem} (h : cdB c = true) : CdOK c:=by
 unfold cdB at h
 simp only [Bool.and_eq_true,decide_eq_true_iff] at h
 exact ⟨fun t ht => List.all_eq_true.1 h.1.2 t ht,h.2,by omega⟩
theorem look_no {vs : List DVar} {s : ByteArray} (h : ¬ lookN vs s < vs.length) : lookI vs s < 0:=by
 unfold lookI
 rw [if_neg h]
 decide
theorem ty_named {vs : List DVar} {c : List DItem} (hc : CdOK c) (h0 : tyV vs c ≠ 0) : ∀ t,t ∈ c → t.op = 3 ∨ t.op = 23 ∨ t.op = 24 → lookN vs t.name < vs.length:=by
 intro t ht hop
 rcases Nat.lt_or_ge (lookN vs t.name) vs.length with h9 | h9
 ·exact h9
 exfalso
 apply h0
 obtain ⟨k,hk,rfl⟩:=List.mem_iff_getElem.1 ht
 obtain ⟨ss,hf,hw,_⟩:=fd_pre (tyItem vs) hc.2.1 (k + 1) hk
 obtain ⟨_,m,s1,us,hss,_,_,_⟩:=hf.top
 have hit:=((it_iff c[k]).1 (hc.1 _ ht)).2.2
 have hnz : ¬ c[k].name.size = 0:=by
  intro h
  simp only [nmB,hop,if_true] at hit
  simp [nameB,plainB,freshB,h] at hit
 have hz : tyItem vs c[k] us = 0:=by
  unfold tyItem
  rw [if_neg hnz,if_pos (look_no (by omega))]
 refine fd_zero vs c hc.1 _ (tyV_fd vs c hc.2.1) (c.length - (k + 1)) (k + 1) (by omega) ss hf hw ?_
 rw [hss,hz]
 simp
theorem defF_true {vs : List DVar} {e : Int} : ∀ {ns : List ByteArray} {G : List Int},(defF vs G ns e).2 = true → ∀ s,s ∈ ns → lookN vs s < vs.length:=by
 intro ns
 induction ns with
 | nil => intro G _ s hs; cases hs
 | cons n r ih =>
  intro G h s hs
  unfold defF at h
  by_cases c : lookN vs n < vs.length ∧ G.getD (lookN vs n) 0 = -1
  ·rw [if_pos c] at h
   rcases List.mem_cons.1 hs with rfl | h9
   ·exact c.1
   ·exact ih h s h9
  ·rw [if_neg c] at h
   cases h
def eqV (ns : List DNode) (i : Nat) (vs : List DVar) (e : DEq) (G : List Int) (q : Nat) : Int :=
 if (defF vs G e.lhs q).2 = false then 4 else if callB ns i e = false then 5 else if typB ns i vs e = false then 6 else if clkB vs e = false then 7 else 0
theorem typ_named {ns : List DNode} {i : Nat} {x : DNode} {e : DEq} (hnb : ∀ n,n ∈ ns → nodeB n = true) (hxb : nodeB x = true) (heb : eqB e = true) (hlh : ∀ s,s ∈ e.lhs → lookN (allV x) s < (allV x).length) (hc : callB ns i e = true) (ht : typB ns i (allV x) e = true) : ∀ c,c ∈ codesOf e → ∀ t,t ∈ c → t.op = 3 ∨ t.op = 23 ∨ t.op = 24 → lookN (allV x) t.name < (allV x).length:=by
 have hvt : ∀ v,varB v = true → v.type ≠ 0:=fun v hv => by
  have h9:=((var_iff v).1 hv).2.1
  omega
 have hcd:=eq_codes e heb
 intro c hcm
 have hcc:=cd_ok (hcd c hcm)
 refine ty_named hcc ?_
 unfold typB at ht
 unfold codesOf at hcm
 by_cases g : e.call.size = 0
 ·rw [if_pos g] at ht hcm
  rw [List.mem_singleton] at hcm
  rw [beq_iff_eq] at ht
  rw [hcm,ht]
  have hl1 : 1 ≤ e.lhs.length:=by
   unfold eqB at heb
   simp only [Bool.and_eq_true,decide_eq_true_iff] at heb
   exact heb.1.1.1
  have hm : e.lhs.headD ⟨#[]⟩ ∈ e.lhs:=by
   cases hq : e.lhs with
   | nil => rw [hq] at hl1; simp at hl1
   | cons a r => simp
  have hl:=hlh _ hm
  unfold firstV lookV
  rw [dif_pos hl]
  exact hvt _ (node_vars hxb _ (List.getElem_mem _))
 ·rw [if_neg g] at ht hcm
  unfold callB at hc
  rw [if_neg g] at hc
  cases hq : ns[(findI ns i e.call).toNat]? with
  | none => rw [hq] at hc; cases hc
  | some gn =>
   rw [hq] at hc ht
   simp only [decide_eq_true_iff] at hc
   rw [Bool.and_eq_true] at ht
   obtain ⟨k,hk,rfl⟩:=List.mem_iff_getElem.1 hcm
   have hkg : k < gn.ins.length:=by omega
   have hty : tyV (allV x) e.args[k] = (gn.ins.map (·.type))[k]'(by rw [List.length_map]; exact hkg):=by
    rcases Classical.em (tyV (allV x) e.args[k] = (gn.ins.map (·.type))[k]'(by rw [List.length_map]; exact hkg)) with h9 | h9
    ·exact h9
    ·have h8:=tys_no (allV x) e.args (gn.ins.map (·.type)) k hk (by rw [List.length_map]; exact hkg) h9
     rw [h8] at ht
     cases ht.1
   rw [hty,List.getElem_map]
   have hgn:=hnb gn (List.mem_of_getElem? hq)
   exact hvt _ (((port_iff _).1 (List.all_eq_true.1 ((node_iff gn).1 hgn).2.2.1 _ (List.getElem_mem hkg))).2)
set_option maxRecDepth 20000 in
set_option maxHeartbeats 8000000 in
theorem equation_ok (W w : World) (ns : List DNode) (i : Nat) (x : DNode) (b o cb EB : Nat) (G : List Int) (sb vb : Nat) (ov : Value) (D : List Nat) (C L : List DCond → Option Nat) (N : Nat) (h : Ck W w ns i x b o cb EB G sb vb ov D C L N) (hGl : G.length = (allV x).length) (hin : i ≤ ns.length) (hns : ∀ j (hj : j < ns.length),At 5 RNode W b (o + j * 5) ns[j]) (hnb : ∀ n,n ∈ ns → nodeB n = true) (hxb : nodeB x = true) (q : Nat) (hq : q < x.eqs.length) (hN : N ≤ 100000000000) :
  Calls Tryz.prog 64 #[.pointer (some ⟨cb,0,none⟩),.int .i64 (q : Int)] w (EqPost W ns i x b o cb EB (defF (allV x) G x.eqs[q].lhs q).1 sb vb ov D L (N + 6000000) (.int .i64 (eqV ns i (allV x) x.eqs[q] G q)) w):=by
 have c0:=h.blk.cell (i:=0) (v:=.pointer (some ⟨sb,0,none⟩)) rfl
 have s0:=h.sc.sblk.cell (i:=0) (v:=.pointer (some ⟨b,o + i * 5,none⟩)) rfl
 have hold:=h.sc.old
 obtain ⟨hbl,cs,hl,hc,v1,v2,v3,v4,rfl,hs,_,_,_,hqs⟩:=h.node
 obtain ⟨eb,eo,ecap,hv4,hat⟩:=hqs.at' q hq
 subst hv4
 have k4:=(hold.cell (p:=⟨b,_,none⟩) hbl).trans (hc 4 (by simp))
 simp only [List.getElem_cons_zero,List.getElem_cons_succ] at k4
 have heb : eqB x.eqs[q] = true:=List.all_eq_true.1 ((node_iff x).1 hxb).2.2.2.2.2 _ (List.getElem_mem hq)
 have hn500:=((node_iff x).1 hxb).1.2.2.2
 have HQ:=hide hq
 have hat : At 4 REq W eb (eo + q * 4) x.eqs[q]:=hat
 generalize hee : x.eqs[q] = e at hat heb ⊢
 have hebx:=heb
 unfold eqB at hebx
 simp only [Bool.and_eq_true,decide_eq_true_iff] at hebx
 obtain ⟨⟨⟨hl1,hl5,ha5⟩,_⟩,hrest⟩:=hebx
 have hcodes : (codesOf e).length ≤ 500:=by
  unfold codesOf
  by_cases g : e.call.size = 0
  ·rw [if_pos g]; simp
  ·rw [if_neg g]; exact ha5
 obtain ⟨hqb,qcs,hql,hqc,x1,x2,x3,hx0,hx00,g1,g2,g3⟩:=hat
 have HAT : Hid (At 4 REq W eb (eo + q * 4) e):=⟨hqb,qcs,hql,hqc,x1,x2,x3,hx0,hx00,g1,g2,g3⟩
 subst hx0
 have e0:=(hold.cell (p:=⟨eb,_,none⟩) hqb).trans (hqc 0 (by simp))
 simp only [List.getElem_cons_zero,Nat.add_zero] at e0
 have HDEF:=hide (defines_ok W w ns i x b o cb EB G sb vb ov D C L N h hGl e.lhs x1 g1 (q : Int))
 obtain ⟨la,lc,rfl⟩:=g1.shape
 have HV : Hid (eqV ns i (allV x) e G q = if (defF (allV x) G e.lhs q).2 = false then 4 else if callB ns i e = false then 5 else if typB ns i (allV x) e = false then 6 else if clkB (allV x) e = false then 7 else 0):=hide rfl
 have HLK : Hid ((defF (allV x) G e.lhs q).2 = true → ∀ s,s ∈ e.lhs → lookN (allV x) s < (allV x).length):=defF_true
 generalize eqV ns i (allV x) e G q = R at *
 obtain ⟨PO,hPO⟩ : ∃ PO : Ending → World → Prop,PO = EqPost W ns i x b o cb EB (defF (allV x) G e.lhs q).1 sb vb ov D L (N + 6000000) (.int .i64 R) w:=⟨_,rfl⟩
 rw [← hPO]
 have HPO:=hide hPO
 generalize defF (allV x) G e.lhs q = GD at *
 obtain ⟨G1,d⟩:=GD
 simp only at *
 have HOLDSZ:=hide hold.size
 have hqI : (q : Int) < (x.eqs.length : Int):=by omega
 have hq0 : (0 : Int) ≤ (q : Int):=by omega
 have HNB:=hide hnb
 have HXB:=hide hxb
 have HEB:=hide heb
 have HINS : Hid (i ≤ ns.length ∧ ∀ j (hj : j < ns.length),At 5 RNode W b (o + j * 5) ns[j]):=⟨hin,hns⟩
 clear hPO h hc hl hs hqs hqc hql hx00 g1 g2 g3 hold hns hnb hxb heb hee hrest hGl hqb hbl hin
 go_enter Tryz.func64,Tryz.ntmps64
 go_wp2_with fail
 refine (uh HDEF).mono ?_
 rintro e9 w1 ⟨rfl,hck1,htn1⟩
 clear c0 s0 k4 e0 HDEF
 cases d
 ·have HFIN : Hid (PO (.returned (.int .i64 4)) w1):=by
   have hR:=uh HV
   rw [if_pos rfl] at hR
   rw [uh HPO,hR]
   exact hide ⟨rfl,C,L,N,hck1,by omega,htn1⟩
  clear hck1 htn1
  go_wp2
  exact uh HFIN
 have hlk:=uh HLK rfl
 have HLK1:=hide hlk
 have HC1:=hide hck1
 have HT1:=hide htn1
 have HCF:=hide (callFits_ok W w1 ns i x b o cb EB G1 sb vb ov D C L N hck1 (uh HINS).1 (uh HINS).2 e eb (eo + q * 4) (uh HAT))
 clear hck1 htn1 HLK hlk
 go_wp2_with fail
 refine (uh HCF).mono ?_
 rintro e9 w2 ⟨rfl,hb2⟩
 have HB2:=hide hb2
 clear HCF
 obtain ⟨cF,hcF⟩ : ∃ z,z = callB ns i e:=⟨_,rfl⟩
 have HCFE:=hide hcF
 rw [← hcF] at HV ⊢
 clear hcF
 cases cF
 ·have HFIN : Hid (PO (.returned (.int .i64 5)) w2):=by
   have hR:=uh HV
   rw [if_neg (by simp),if_pos rfl] at hR
   rw [uh HPO,hR]
   exact hide ⟨rfl,C,L,N,(uh HC1).below hb2,by omega,(uh HT1).trans (Turn.of_below hb2 (uh HC1).sc.old.size)⟩
  clear hb2
  go_wp2
  exact uh HFIN
 have HC2:=hide ((uh HC1).below hb2)
 have HT2:=hide ((uh HT1).trans (Turn.of_below hb2 (uh HC1).sc.old.size))
 have HTF : Hid (Calls Tryz.prog 91 #[.pointer (some ⟨cb,0,none⟩),.pointer (some ⟨eb,eo + q * 4,none⟩)] w2 (Ans (.bool (typB ns i (allV x) e)) w2)):=by
  have hcod:=eq_codes e (uh HEB)
  unfold codesOf at hcod
  by_cases g : e.call.size = 0
  ·rw [if_pos g] at hcod
   exact hide (typesFit_code W w2 ns i x b o cb EB G1 sb vb ov D C L N (uh HC2) e eb (eo + q * 4) (uh HAT) g (by omega) (uh HLK1) (cd_ok (hcod _ (List.mem_singleton.2 rfl))))
  ·rw [if_neg g] at hcod
   exact hide (typesFit_call W w2 ns i x b o cb EB G1 sb vb ov D C L N (uh HC2) (uh HINS).1 (uh HINS).2 e eb (eo + q * 4) (uh HAT) g (uh HCFE).symm (uh HLK1) (fun c hc => cd_ok (hcod c hc)) ⟨by omega,by omega⟩)
 clear HB2 hb2 HC1 HT1
 go_wp2_with fail
 refine (uh HTF).mono ?_
 rintro e9 w3 ⟨rfl,hb3⟩
 clear HTF
 obtain ⟨tF,htF⟩ : ∃ z,z = typB ns i (allV x) e:=⟨_,rfl⟩
 have HTFE:=hide htF
 rw [← htF] at HV ⊢
 clear htF
 cases tF
 ·have HFIN : Hid (PO (.returned (.int .i64 6)) w3):=by
   have hR:=uh HV
   rw [if_neg (by simp),if_neg (by simp),if_pos rfl] at hR
   rw [uh HPO,hR]
   exact hide ⟨rfl,C,L,N,(uh HC2).below hb3,by omega,(uh HT2).trans (Turn.of_below hb3 (uh HC2).sc.old.size)⟩
  clear hb3
  go_wp2
  exact uh HFIN
 have HC3:=hide ((uh HC2).below hb3)
 have HT3:=hide ((uh HT2).trans (Turn.of_below hb3 (uh HC2).sc.old.size))
 have HKF:=hide (clocksFit_ok W w3 ns i x b o cb EB G1 sb vb ov D C L N (uh HC3) e eb (eo + q * 4) (uh HAT) (by omega) (uh HLK1) (fun c hc => cd_ok (eq_codes e (uh HEB) c hc)) (typ_named (uh HNB) (uh HXB) (uh HEB) (uh HLK1) (uh HCFE).symm (uh HTFE).symm) (clk_len (uh HXB) _) ⟨by omega,by omega⟩ hN)
 clear hb3 HC2 HT2
 go_wp2_with fail
 refine (uh HKF).mono ?_
 rintro e9 w4 ⟨rfl,C2,L2,N2,hck4,hn4,ht4⟩
 clear HKF
 obtain ⟨kF,hkF⟩ : ∃ z,z = clkB (allV x) e:=⟨_,rfl⟩
 rw [← hkF] at HV ⊢
 clear hkF
 have HFIN : Hid (PO (.returned (.int .i64 R)) w4):=by
  rw [uh HPO]
  exact hide ⟨rfl,C2,L2,N2,hck4,by omega,(uh HT3).trans ht4⟩
 clear hck4 hn4 ht4
 cases kF
 ·have hR:=uh HV
  rw [if_neg (by simp),if_neg (by simp),if_neg (by simp),if_pos rfl] at hR
  rw [hR] at HFIN
  clear HV hR
  go_wp2
  exact uh HFIN
 ·have hR:=uh HV
  rw [if_neg (by simp),if_neg (by simp),if_neg (by simp),if_neg (by simp)] at hR
  rw [hR] at HFIN
  clear HV hR
  go_wp2
  first
   | exact uh HFIN
   | (go_ret; exact uh HFIN)
def givTo (x : DNode) (G : List Int) : Nat → List Int
 | 0 => G
 | k + 1 => match x.eqs[k]? with | some e => (defF (allV x) (givTo x G k) e.lhs k).1 | none => givTo x G k
theorem bound_step {a b c k M : Nat} (h1 : b ≤ a + M * k) (h2 : c ≤ b + M) : c ≤ a + M * (k + 1):=by
 rw [Nat.mul_add,Nat.mul_one]
 omega
theorem bound_in {a b k n M : Nat} (h1 : b ≤ a + M * k) (h2 : k ≤ n) : b ≤ a + M * n:=by
 have:=Nat.mul_le_mul_left M h2
 omega
theorem givTo_len (x : DNode) (G : List Int) (k : Nat) : (givTo x G k).length = G.length:=by
 induction k with
 | zero => rfl
 | succ k ih =>
  unfold givTo
  cases x.eqs[k]? with
  | none => exact ih
  | some e => simp only; rw [defF_len,ih]
def eqI (ns : List DNode) (i : Nat) (x : DNode) (G : List Int) (k : Nat) : Int:=match x.eqs[k]? with | some e => eqV ns i (allV x) e (givTo x G k) k | none => 0
def eqsF (ns : List DNode) (i : Nat) (x : DNode) (G : List Int) : Int × Int:=match firstTo (fun k => eqI ns i x G k != 0) x.eqs.length with
 | some k => (eqI ns i x G k,(k : Int))
 | none => (0,0)
def CeP (W : World) (ns : List DNode) (i : Nat) (x : DNode) (b o cb EB : Nat) (G : List Int) (sb vb : Nat) (ov : Value) (D : List Nat) (M : Nat) (r : Int × Int) (e : Ending) (w' : World) : Prop :=
 e = .returned (.tuple #[.int .i64 r.1,.int .i64 r.2]) ∧ ∃ (G' : List Int) (C' L' : List DCond → Option Nat) (N' : Nat),Ck W w' ns i x b o cb EB G' sb vb ov D C' L' N' ∧ N' ≤ M ∧ (r.1 = 0 → G' = G)
set_option maxRecDepth 20000 in
set_option maxHeartbeats 8000000 in
theorem equations_ok (W w : World) (ns : List DNode) (i : Nat) (x : DNode) (b o cb EB : Nat) (G : List Int) (sb vb : Nat) (ov : Value) (D : List Nat) (C L : List DCond → Option Nat) (N : Nat) (h : Ck W w ns i x b o cb EB G sb vb ov D C L N) (hGl : G.length = (allV x).length) (hin : i ≤ ns.length) (hns : ∀ j (hj : j < ns.length),At 5 RNode W b (o + j * 5) ns[j]) (hnb : ∀ n,n ∈ ns → nodeB n = true) (hxb : nodeB x = true) (hN : N ≤ 1000000000) :
  Calls Tryz.prog 36 #[.pointer (some ⟨cb,0,none⟩)] w (CeP W ns i x b o cb EB (givTo x G x.eqs.length) sb vb ov D (N + 6000000 * x.eqs.length) (eqsF ns i x G)):=by
 have c0:=h.blk.cell (i:=0) (v:=.pointer (some ⟨sb,0,none⟩)) rfl
 have s0:=h.sc.sblk.cell (i:=0) (v:=.pointer (some ⟨b,o + i * 5,none⟩)) rfl
 have hold:=h.sc.old
 obtain ⟨hbl,cs,hl,hc,v1,v2,v3,v4,rfl,hs,_,_,_,hqs⟩:=h.node
 obtain ⟨ea,ec,hv4⟩:=hqs.shape
 subst hv4
 have k4:=(hold.cell (p:=⟨b,_,none⟩) hbl).trans (hc 4 (by simp))
 simp only [List.getElem_cons_zero,List.getElem_cons_succ] at k4
 have hn500:=((node_iff x).1 hxb).1.2.2.2
 have HH:=hide h
 have HEQ:=hide (fun (w : World) (G : List Int) (C L : List DCond → Option Nat) (N : Nat) (h : Ck W w ns i x b o cb EB G sb vb ov D C L N) (hGl : G.length = (allV x).length) (q : Nat) (hq : q < x.eqs.length) (hN : N ≤ 100000000000) => equation_ok W w ns i x b o cb EB G sb vb ov D C L N h hGl hin hns hnb hxb q hq hN)
 have HGL:=hide hGl
 obtain ⟨PO,hPO⟩ : ∃ PO : Ending → World → Prop,PO = CeP W ns i x b o cb EB (givTo x G x.eqs.length) sb vb ov D (N + 6000000 * x.eqs.length) (eqsF ns i x G):=⟨_,rfl⟩
 rw [← hPO]
 have HPO:=hide hPO
 clear hPO h hc hl hs hqs hold hns hnb hxb hGl hbl hin
 go_enter Tryz.func36,Tryz.ntmps36
 go_wp2
 clear c0 s0 k4
 go_loopg [17] x.eqs.length (fun gm iv wr => ∃ (k : Nat) (C' L' : List DCond → Option Nat) (N' : Nat),k ≤ x.eqs.length ∧ gm = x.eqs.length - k ∧ iv = .int .i64 k ∧ Ck W wr ns i x b o cb EB (givTo x G k) sb vb ov D C' L' N' ∧ N' ≤ N + 6000000 * k ∧ ∀ j,j < k → (eqI ns i x G j != 0) = false)
 case atStart => exact ⟨0,C,L,N,Nat.zero_le _,by omega,rfl,uh HH,by omega,fun j hj => absurd hj (Nat.not_lt_zero _)⟩
 case round =>
  obtain ⟨k,C',L',N',hk,hgm,rfl,hck,hNk,hno⟩:=hrel
  rename World => wr
  have HG:=hide hgm
  have HNO:=hide hno
  have HCK:=hide hck
  clear hgm hno
  by_cases hlt : k < x.eqs.length
  case neg =>
   have hke : k = x.eqs.length:=by omega
   have HFIN : Hid (PO (.returned (.tuple #[.int .i64 0,.int .i64 0])) wr):=by
    rw [uh HPO]
    unfold eqsF
    rw [first_none (fun j hj => uh HNO j (by omega)),← hke]
    exact hide ⟨rfl,_,C',L',N',hck,hNk,fun _ => rfl⟩
   have hkI : ¬ (k : Int) < (x.eqs.length : Int):=by omega
   clear hke hck hlt
   go_wp2
   exact uh HFIN
  have hkI : (k : Int) < (x.eqs.length : Int):=by omega
  have hgx : givTo x G (k + 1) = (defF (allV x) (givTo x G k) x.eqs[k].lhs k).1:=by
   rw [givTo,List.getElem?_eq_getElem hlt]
  have hex : eqI ns i x G k = eqV ns i (allV x) x.eqs[k] (givTo x G k) k:=by
   unfold eqI
   rw [List.getElem?_eq_getElem hlt]
  have HE:=hide (uh HEQ wr (givTo x G k) C' L' N' hck (by rw [givTo_len]; exact uh HGL) k hlt (by omega))
  rw [← hgx,← hex] at HE
  have HLT:=hide hlt
  have HHIT : Hid ((eqI ns i x G k != 0) = true → ∀ w' G2 C2 L2 N2,Ck W w' ns i x b o cb EB G2 sb vb ov D C2 L2 N2 → N2 ≤ N + 6000000 * x.eqs.length → PO (.returned (.tuple #[.int .i64 (eqI ns i x G k),.int .i64 (k : Int)])) w'):=fun h9 w' G2 C2 L2 N2 g1 g2 => by
   rw [uh HPO]
   unfold eqsF
   rw [first_hit hlt h9 (uh HNO)]
   refine ⟨rfl,G2,C2,L2,N2,g1,g2,fun h8 => ?_⟩
   simp only at h8
   rw [h8] at h9
   cases h9
  have HND : Hid ((eqI ns i x G k != 0) = false → ∀ j,j < k + 1 → (eqI ns i x G j != 0) = false):=fun h9 j hj => by
   by_cases c : j < k
   ·exact uh HNO j c
   ·have e : j = k:=by omega
    rw [e]
    exact h9
  generalize eqI ns i x G k = ev at HE HHIT HND
  clear hex hgx hck hlt
  by_cases he : ev = 0
  ·have HN1:=hide (uh HND (by rw [he]; rfl))
   subst he
   clear HHIT HND
   go_wp2_with fail
   refine (uh HE).mono ?_
   rintro e9 w2 ⟨rfl,C2,L2,N2,hck2,hn2,ht2⟩
   have HC2:=hide hck2
   have hN2 : N2 ≤ N + 6000000 * (k + 1):=bound_step hNk hn2
   have HN2:=hide hN2
   clear hN2
   clear hck2 hn2 ht2 HE
   go_wp2
   go_roundg (x.eqs.length - (k + 1))
   case measure =>
    have h8:=uh HLT
    have h9:=uh HG
    omega
   case rel => exact ⟨k + 1,C2,L2,N2,uh HLT,rfl,by go_num,uh HC2,uh HN2,uh HN1⟩
  ·have hne : (ev == 0) = false:=by rw [beq_eq_false_iff_ne]; exact he
   have hnn : (ev != 0) = true:=by rw [bne_iff_ne]; exact he
   have HF:=hide (uh HHIT hnn)
   clear HHIT HND he
   go_wp2_with fail
   refine (uh HE).mono ?_
   rintro e9 w2 ⟨rfl,C2,L2,N2,hck2,hn2,ht2⟩
   have HE2:=hide (uh HF w2 _ C2 L2 N2 hck2 (bound_in (bound_step hNk hn2) (uh HLT)))
   clear hck2 hn2 ht2 HE HF
   go_wp2
   exact uh HE2
end Go.Proofs.YtfioeoihociilaaGreat
