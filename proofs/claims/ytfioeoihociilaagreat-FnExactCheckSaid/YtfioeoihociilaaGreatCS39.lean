import Derived.Test.YtfioeoihociilaaGreatCS38
import Derived.Test.YtfioeoihociilaaGreatCS30
import Derived.Test.YtfioeoihociilaaGreatWgtD
namespace Go.Proofs.YtfioeoihociilaaGreat
open Go.RowKit
set_option linter.unusedSimpArgs false
set_option linter.unusedVariables false
theorem loops_ok (W0 : World) (x : DNode) (nb no : Nat) (G : List Int) (sb vb : Nat) (ov : Value) (D : List Nat) (C L : List DCond → Option Nat) (N mb : Nat) (hok : LpOK x G) : ∀ (c : Nat) (w : World) (M : List Int) (e : Nat),zs M ≤ c → e < x.eqs.length → LpIn W0 w x nb no G sb vb ov D C L N mb M → MInv (edgP x G) x.eqs.length M → (∀ u,u < x.eqs.length → mkA M u = 1 → Tg (edgP x G) u e) → Calls Tryz.prog 65 #[.pointer (some ⟨sb,0,none⟩),.int .i64 (e : Int),.slice (some ⟨mb,0,none⟩) x.eqs.length x.eqs.length] w (LpPost x G mb M e w):=by
 intro c
 induction c with
 | zero =>
  intro w M e hz he h hi hg
  by_cases h0 : mkA M e = 0
  ·have h9:=zs_set M e 1 (by rw [hi.len]; exact he) h0 (by decide)
   omega
  ·exact loops_seen W0 w x nb no G sb vb ov D C L N mb M h hi e he hg h0
 | succ c ih =>
  intro w M e hz he h hi hg
  by_cases h0 : mkA M e = 0
  ·exact loops_new W0 x nb no G sb vb ov D C L N mb hok c ih w M h hi e he hg h0 hz
  ·exact loops_seen W0 w x nb no G sb vb ov D C L N mb M h hi e he hg h0
theorem made_int (n : Nat) : madeCells (Value.int .i64 0).cells n = ((List.replicate n (0 : Int)).map (Value.int .i64)).toArray:=by
 apply Array.ext
 ·rw [size_madeCells]; simp
 ·intro i h1 h2
  simp [madeCells,Nat.mod_one,Value.cells]
structure DecA where
 d:(p:Prop)->Decidable p
def cycP (D:DecA) (x:DNode) (G:List Int):Int × Int:=@ite _ (∃ u,u < x.eqs.length ∧ Tg (edgP x G) u u) (D.d _) (8,0) (0,0)
set_option maxRecDepth 20000 in
set_option maxHeartbeats 4000000 in
theorem cycle_ok (Dq : DecA) (W w : World) (ns : List DNode) (i : Nat) (x : DNode) (b o cb EB : Nat) (G : List Int) (sb vb : Nat) (ov : Value) (D : List Nat) (C L : List DCond → Option Nat) (N : Nat) (h : Ck W w ns i x b o cb EB G sb vb ov D C L N) (hok : LpOK x G) :
  Calls Tryz.prog 38 #[.pointer (some ⟨cb,0,none⟩)] w (ChPost (cycP Dq x G) w):=by
 have hold:=h.sc.old
 have c0:=h.blk.cell (i:=0) (v:=.pointer (some ⟨sb,0,none⟩)) rfl
 have s0:=h.sc.sblk.cell (i:=0) (v:=.pointer (some ⟨b,o + i * 5,none⟩)) rfl
 obtain ⟨hbl,cs,hl,hc,v1,v2,v3,v4,rfl,hs,_,_,_,hqs⟩:=h.node
 obtain ⟨ea,ec,hv4⟩:=hqs.shape
 subst hv4
 have k4:=(hold.cell (p:=⟨b,_,none⟩) hbl).trans (hc 4 (by simp))
 simp only [List.getElem_cons_zero,List.getElem_cons_succ] at k4
 have hn5:=hok.len
 have hmk : (Instr.makeSlice 80 (.int .i64 (x.eqs.length : Int)) (.int .i64 (x.eqs.length : Int))).run Tryz.prog w = .ok (.slice (some ⟨w.heap.size,0,none⟩) x.eqs.length x.eqs.length) (w.alloc (.cells ((List.replicate x.eqs.length (0 : Int)).map (Value.int .i64)).toArray 3)):=by
  have h9:=make_rows (P:=Tryz.prog) 80 3 (.int .i64 0) 1 8 uInts iInt x.eqs.length (by omega) (by omega) w
  rw [Nat.mul_one,made_int] at h9
  exact h9
 obtain ⟨w1,hw1⟩ : ∃ z,z = w.alloc (.cells ((List.replicate x.eqs.length (0 : Int)).map (Value.int .i64)).toArray 3):=⟨_,rfl⟩
 rw [← hw1] at hmk
 have hB1 : Below w.heap.size w w1:=by rw [hw1]; exact (Below.refl _ _).alloc (Nat.le_refl _) _
 have hrow : BlkAt w1 w.heap.size 3 ((List.replicate x.eqs.length (0 : Int)).map (Value.int .i64)).toArray:=by rw [hw1]; exact blk_box w _ _
 have hz0 : ∀ i,i < x.eqs.length → mkA (List.replicate x.eqs.length (0 : Int)) i = 0:=fun i hi => by
  unfold mkA
  rw [List.getD_eq_getElem?_getD,List.getElem?_replicate,if_pos hi]
  rfl
 obtain ⟨mb,hmb⟩ : ∃ z,z = w.heap.size:=⟨_,rfl⟩
 rw [← hmb] at hmk hrow
 have hck1:=h.below hB1
 have HL1 : Hid (LpIn W w1 x b (o + i * 5) G sb vb ov D C L N mb (List.replicate x.eqs.length 0)):=hide ⟨hck1.sc,h.node,by rw [hmb]; exact hold.size,hrow⟩
 have HI1 : Hid (MInv (edgP x G) x.eqs.length (List.replicate x.eqs.length 0)):=hide ⟨List.length_replicate,fun i hi => Or.inl (hz0 i hi),fun u hu hm => (by rw [hz0 u hu] at hm; cases hm),fun u hu hm => (by rw [hz0 u hu] at hm; cases hm)⟩
 have HG1 : Hid (∀ u,u < x.eqs.length → mkA (List.replicate x.eqs.length (0 : Int)) u ≠ 1):=fun u hu hm => by rw [hz0 u hu] at hm; cases hm
 have HLP:=hide (loops_ok W x b (o + i * 5) G sb vb ov D C L N mb hok)
 have HBL : Hid (∀ wr,w1.grownBy wr (some mb) → Below w.heap.size w wr ∧ wr.cell? ⟨cb,0,none⟩ = some (.pointer (some ⟨sb,0,none⟩))):=fun wr hg => by
  have hb : Below w.heap.size w wr:=⟨hg.os.trans hB1.os,hg.tape.trans hB1.tape,hg.output.trans hB1.output,Nat.le_trans hB1.size hg.size,fun k hk => (hg.block k (Nat.lt_of_lt_of_le hk hB1.size) (fun e => by have:=Option.some.inj e; omega)).trans (hB1.block k hk)⟩
  exact ⟨hb,(hb.cell (World.block_lt_of_cell? w _ c0)).trans c0⟩
 obtain ⟨PO,hPO⟩ : ∃ PO : Ending → World → Prop,PO = ChPost (cycP Dq x G) w:=⟨_,rfl⟩
 rw [← hPO]
 have HPO:=hide hPO
 clear h hok hc hl hs hqs hold hbl hPO hw1 hB1 hrow hz0 hmb hck1
 generalize o + i * 5 = oi at *
 go_enter Tryz.func38,Tryz.ntmps38
 go_wp2
 clear c0 s0 k4 hmk
 go_loopg [20] x.eqs.length (fun gm iv wr => ∃ (k : Nat) (M : List Int),k ≤ x.eqs.length ∧ gm = x.eqs.length - k ∧ iv = .int .i64 k ∧ w1.grownBy wr (some mb) ∧ LpIn W wr x b oi G sb vb ov D C L N mb M ∧ MInv (edgP x G) x.eqs.length M ∧ (∀ u,u < x.eqs.length → mkA M u ≠ 1) ∧ ∀ j,j < k → mkA M j = 2)
 case atStart => exact ⟨0,_,Nat.zero_le _,by omega,rfl,below_grown (Below.refl _ _) _,uh HL1,uh HI1,uh HG1,fun j hj => absurd hj (Nat.not_lt_zero _)⟩
 case round =>
  obtain ⟨k,M,hk,hgm,rfl,hgr,hlp,hinv,hng,hbk⟩:=hrel
  rename World => wr
  obtain ⟨hb,z0⟩:=uh HBL wr hgr
  have HG:=hide hgm
  clear hgm HL1 HI1 HG1
  by_cases hlt : k < x.eqs.length
  case neg =>
   have hke : k = x.eqs.length:=by omega
   have HFIN : Hid (PO (.returned (.tuple #[.int .i64 0,.int .i64 0])) wr):=by
    rw [uh HPO]
    unfold cycP
    rw [if_neg]
    ·exact hide ⟨rfl,hb⟩
    ·rintro ⟨u,hu,ht⟩
     exact hinv.acy u hu (hbk u (by omega)) ht
   have hkI : ¬ (k : Int) < (x.eqs.length : Int):=by omega
   clear hke hb hgr hlp hinv hng hbk hlt
   go_wp2
   exact uh HFIN
  have hkI : (k : Int) < (x.eqs.length : Int):=by omega
  have HC:=hide (uh HLP (zs M) wr M k (Nat.le_refl _) hlt hlp hinv (fun u hu hm => absurd hm (hng u hu)))
  have HGR:=hide hgr
  have HLPI:=hide hlp
  have HNG:=hide hng
  have HBK:=hide hbk
  have HLT:=hide hlt
  clear hb hgr hlp hinv hng hbk hlt
  go_wp2_with fail
  refine (uh HC).mono ?_
  rintro e9 w3 ⟨r,M2,rfl,hg3,hr3,ht3,hf3⟩
  have hgr3:=grown_trans (uh HGR) hg3
  have hb3:=(uh HBL w3 hgr3).1
  clear z0 HC
  cases r
  ·obtain ⟨q1,q2,q3⟩:=hf3 rfl
   have HNX : Hid (w1.grownBy w3 (some mb) ∧ LpIn W w3 x b oi G sb vb ov D C L N mb M2 ∧ MInv (edgP x G) x.eqs.length M2 ∧ (∀ u,u < x.eqs.length → mkA M2 u ≠ 1) ∧ ∀ j,j < k + 1 → mkA M2 j = 2):=by
    refine hide ⟨hgr3,(uh HLPI).turn hg3 hr3,q1,fun u hu hm => uh HNG u hu ((q2.gray u hu).2 hm),fun j hj => ?_⟩
    have hlt9:=uh HLT
    by_cases c : j = k
    ·rw [c]; exact q3
    ·exact q2.black j (by omega) (uh HBK j (by omega))
   clear hg3 hr3 ht3 hf3 q1 q2 q3 hgr3 hb3
   go_wp2
   go_roundg (x.eqs.length - (k + 1))
   case measure =>
    have h8:=uh HLT
    have h9:=uh HG
    omega
   case rel =>
    obtain ⟨r1,r2,r3,r4,r5⟩:=uh HNX
    exact ⟨k + 1,M2,uh HLT,rfl,by go_num,r1,r2,r3,r4,r5⟩
  ·have HFIN : Hid (PO (.returned (.tuple #[.int .i64 8,.int .i64 0])) w3):=by
    rw [uh HPO]
    unfold cycP
    rw [if_pos (ht3 rfl)]
    exact hide ⟨rfl,hb3⟩
   clear hg3 hr3 ht3 hf3 hgr3 hb3
   go_wp2
   exact uh HFIN
end Go.Proofs.YtfioeoihociilaaGreat
namespace Go.Proofs.YtfioeoihociilaaGreat
open Go.RowKit
set_option linter.unusedSimpArgs false
set_option linter.unusedVariables false
theorem inB_iff (l : List ByteArray) (x : ByteArray) : inB l x = true ↔ x ∈ l:=by
 unfold inB
 rw [List.any_eq_true]
 constructor
 ·rintro ⟨y,hy,h⟩
  rw [nm_eq] at h
  rw [← h]
  exact hy
 ·intro h
  exact ⟨x,h,(nm_eq x x).2 rfl⟩
theorem look_name (vs : List DVar) (s : ByteArray) (h : lookN vs s < vs.length) : vs[lookN vs s].name = s:=by
 have h9:=List.findIdx_getElem (w:=h)
 exact (nm_eq _ _).1 h9
theorem eqV_zero {ns : List DNode} {i : Nat} {vs : List DVar} {e : DEq} {G : List Int} {q : Nat} (h : eqV ns i vs e G q = 0) : (defF vs G e.lhs q).2 = true ∧ callB ns i e = true ∧ typB ns i vs e = true ∧ clkB vs e = true:=by
 unfold eqV at h
 cases h1 : (defF vs G e.lhs q).2 with
 | false => rw [h1,if_pos rfl] at h; cases h
 | true =>
  rw [h1,if_neg (by simp)] at h
  cases h2 : callB ns i e with
  | false => rw [h2,if_pos rfl] at h; cases h
  | true =>
   rw [h2,if_neg (by simp)] at h
   cases h3 : typB ns i vs e with
   | false => rw [h3,if_pos rfl] at h; cases h
   | true =>
    rw [h3,if_neg (by simp)] at h
    cases h4 : clkB vs e with
    | false => rw [h4,if_pos rfl] at h; cases h
    | true => exact ⟨rfl,rfl,rfl,rfl⟩
theorem defF_lt {vs : List DVar} {B e : Int} (hB : 0 < B) (he : e < B) : ∀ (names : List ByteArray) (G : List Int),(∀ k,G.getD k 0 < B) → ∀ k,(defF vs G names e).1.getD k 0 < B:=by
 intro names
 induction names with
 | nil => intro G h k; exact h k
 | cons n r ih =>
  intro G h k
  unfold defF
  split
  ·refine ih _ (fun j => ?_) k
   rw [List.getD_eq_getElem?_getD]
   by_cases c : lookN vs n = j
   ·subst c
    rw [List.getElem?_set]
    split
    ·split
     ·exact he
     ·exact hB
    ·rename_i hc; exact absurd rfl hc
   ·rw [List.getElem?_set_ne c,← List.getD_eq_getElem?_getD]
    exact h j
  ·exact h k
theorem giv_lt {x : DNode} (hn : 1 ≤ x.eqs.length) (k : Nat) (hk : k ≤ x.eqs.length) : ∀ j,(givTo x (giv0 x) k).getD j 0 < (x.eqs.length : Int):=by
 induction k with
 | zero =>
  intro j
  show (giv0 x).getD j 0 < _
  unfold giv0
  rw [List.getD_eq_getElem?_getD]
  cases hq : (List.replicate x.ins.length (-2 : Int) ++ List.replicate (x.outs.length + x.vars.length) (-1))[j]? with
  | none => show (0 : Int) < _; omega
  | some v =>
   have hm:=List.mem_of_getElem? hq
   rcases List.mem_append.1 hm with h9 | h9
   ·rw [List.eq_of_mem_replicate h9]; show (-2 : Int) < _; omega
   ·rw [List.eq_of_mem_replicate h9]; show (-1 : Int) < _; omega
 | succ k ih =>
  intro j
  unfold givTo
  rw [List.getElem?_eq_getElem (by omega)]
  exact defF_lt (by omega) (by omega) _ _ (ih (by omega)) j
theorem giv0_len (x : DNode) : (giv0 x).length = (allV x).length:=by
 unfold giv0 allV
 simp
theorem eqI_at (ns : List DNode) (i : Nat) (x : DNode) (G : List Int) (k : Nat) (hk : k < x.eqs.length) : eqI ns i x G k = eqV ns i (allV x) x.eqs[k] (givTo x G k) k:=by
 unfold eqI
 rw [List.getElem?_eq_getElem hk]
theorem lp_ok {ns : List DNode} {i : Nat} {x : DNode} (hnb : ∀ n,n ∈ ns → nodeB n = true) (hxb : nodeB x = true) (hclk : ∀ k,k < (allV x).length → clkBad (allV x) k = false) (heq : ∀ k,k < x.eqs.length → eqI ns i x (giv0 x) k = 0) : LpOK x (givTo x (giv0 x) x.eqs.length):=by
 have hni:=(node_iff x).1 hxb
 have heb : ∀ e,e ∈ x.eqs → eqB e = true:=fun e he => List.all_eq_true.1 hni.2.2.2.2.2 e he
 have hz : ∀ e,e ∈ x.eqs → ∃ q G,eqV ns i (allV x) e G q = 0:=fun e he => by
  obtain ⟨k,hk,rfl⟩:=List.mem_iff_getElem.1 he
  exact ⟨k,_,by rw [← eqI_at]; exact heq k hk⟩
 have hlh : ∀ e,e ∈ x.eqs → 0 < e.lhs.length:=fun e he => by
  have h9:=heb e he
  unfold eqB at h9
  simp only [Bool.and_eq_true,decide_eq_true_iff] at h9
  exact h9.1.1.1
 have hlk : ∀ e,e ∈ x.eqs → ∀ s,s ∈ e.lhs → lookN (allV x) s < (allV x).length:=fun e he => by
  obtain ⟨q,G,h9⟩:=hz e he
  exact defF_true (eqV_zero h9).1
 refine ⟨hlh,hlk,fun e he c hc => ?_,fun e he => ?_,fun e he nm hnm => ?_,fun k hk => giv_lt hni.1.2.2.1 _ (Nat.le_refl _) k,hni.1.2.2.2⟩
 ·have h9:=eq_codes e (heb e he) c hc
  exact ⟨cd_ok h9,(code_items c h9).2⟩
 ·have h9:=heb e he
  unfold eqB at h9
  simp only [Bool.and_eq_true,decide_eq_true_iff] at h9
  unfold codesOf
  by_cases g : e.call.size = 0
  ·rw [if_pos g]; simp
  ·rw [if_neg g]; exact h9.1.1.2.2
 ·obtain ⟨q,G,h9⟩:=hz e he
  obtain ⟨_,hcb,htb,_⟩:=eqV_zero h9
  have hnm40 : ∀ s : ByteArray,nameB s = true → s.size ≤ maxLen:=fun s hs => by have:=name_len hs; unfold maxLen; omega
  unfold rdP at hnm
  rcases List.mem_append.1 hnm with h8 | h8
  ·rw [List.mem_map] at h8
   obtain ⟨c,hc,rfl⟩:=h8
   have hhd : e.lhs.headD ⟨#[]⟩ ∈ e.lhs:=by
    cases hq : e.lhs with
    | nil => have:=hlh e he; rw [hq] at this; simp at this
    | cons a r => simp
   have hl0:=hlk e he _ hhd
   have hn9:=clk_names hxb _ c (show c ∈ clkOf (allV x) (e.lhs.headD ⟨#[]⟩) from hc)
   refine ⟨?_,hnm40 _ hn9⟩
   have hck : (firstV (allV x) e).clock = (allV x)[lookN (allV x) (e.lhs.headD ⟨#[]⟩)].clock:=by
    unfold firstV lookV
    rw [dif_pos hl0]
   rw [hck] at hc
   obtain ⟨j,hj,rfl⟩:=List.mem_iff_getElem.1 hc
   have h7:=hclk _ hl0
   rw [clk_at _ _ hl0] at h7
   rcases Nat.lt_or_ge (lookN (allV x) ((allV x)[lookN (allV x) (e.lhs.headD ⟨#[]⟩)].clock[j]).name) (allV x).length with h6 | h6
   ·exact h6
   ·exfalso
    have h5:=cond_no (allV x) _ j hj (by omega)
    rw [first_some hj h5] at h7
    cases h7
  ·have hvis : ∀ k,nm ∈ visAll (codesOf e) k → ∃ c,c ∈ codesOf e ∧ nm ∈ visTo c c.length:=fun k => by
    induction k with
    | zero => intro h; simp [visAll] at h
    | succ k ih =>
     intro h
     unfold visAll at h
     rcases List.mem_append.1 h with h | h
     ·exact ih h
     ·cases hq : (codesOf e)[k]? with
      | none => rw [hq] at h; cases h
      | some c => rw [hq] at h; exact ⟨c,List.mem_of_getElem? hq,h⟩
   obtain ⟨c,hc,hv⟩:=hvis _ h8
   obtain ⟨j,hj,hv⟩:=(vis_mem c _ nm).1 hv
   unfold visOne at hv
   rw [List.getElem?_eq_getElem hj] at hv
   simp only at hv
   by_cases hs : c[j].name.size = 0
   ·rw [if_pos hs] at hv; cases hv
   rw [if_neg hs] at hv
   split at hv
   ·cases hv
   rw [List.mem_singleton] at hv
   subst hv
   have hcd9:=cd_ok (eq_codes e (heb e he) c hc)
   have hit:=((it_iff c[j]).1 (hcd9.1 _ (List.getElem_mem hj))).2.2
   have hop : c[j].op = 3 ∨ c[j].op = 23 ∨ c[j].op = 24:=by
    unfold nmB at hit
    by_cases c3 : c[j].op = 3 ∨ c[j].op = 23 ∨ c[j].op = 24
    ·exact c3
    ·rw [if_neg c3] at hit
     exact absurd (by simpa using hit) hs
   refine ⟨typ_named hnb hxb (heb e he) (hlk e he) hcb htb c hc _ (List.getElem_mem hj) hop,hnm40 _ ?_⟩
   unfold nmB at hit
   rw [if_pos hop] at hit
   exact hit
theorem set_getD (G : List Int) (a j : Nat) (v : Int) (ha : a < G.length) : (G.set a v).getD j 0 = if j = a then v else G.getD j 0:=by
 rw [List.getD_eq_getElem?_getD,List.getD_eq_getElem?_getD]
 by_cases c : j = a
 ·subst c
  rw [if_pos rfl,List.getElem?_set_self ha]
  rfl
 ·rw [if_neg c,List.getElem?_set_ne (fun h => c h.symm)]
theorem cnt_set (G : List Int) (a : Nat) (v : Int) (ha : a < G.length) (h1 : G.getD a 0 = -1) (hv : v ≠ -1) : (G.set a v).countP (fun m => m == -1) + 1 = G.countP (fun m => m == -1):=by
 induction G generalizing a with
 | nil => simp at ha
 | cons m r ih =>
  cases a with
  | zero =>
   have hm : m = -1:=by simpa using h1
   have hvv : (v == -1) = false:=by rw [beq_eq_false_iff_ne]; exact hv
   rw [List.set_cons_zero,List.countP_cons,List.countP_cons,hm,hvv]
   simp
  | succ a =>
   have h9:=ih a (by simpa using ha) (by simpa using h1)
   rw [List.set_cons_succ,List.countP_cons,List.countP_cons]
   omega
theorem defF_all {vs : List DVar} {e : Int} (he : e ≠ -1) : ∀ (names : List ByteArray) (G : List Int),G.length = vs.length → (defF vs G names e).2 = true →
  (∀ j,(defF vs G names e).1.getD j 0 = if (∃ s,s ∈ names ∧ lookN vs s = j) then e else G.getD j 0) ∧ (defF vs G names e).1.countP (fun m => m == -1) + names.length = G.countP (fun m => m == -1) ∧ (∀ s,s ∈ names → G.getD (lookN vs s) 0 = -1):=by
 intro names
 induction names with
 | nil =>
  intro G hG h
  exact ⟨fun j => by rw [if_neg (by simp)]; rfl,rfl,fun s hs => by cases hs⟩
 | cons n r ih =>
  intro G hG h
  unfold defF at h ⊢
  by_cases c : lookN vs n < vs.length ∧ G.getD (lookN vs n) 0 = -1
  ·rw [if_pos c] at h ⊢
   have hl : lookN vs n < G.length:=by rw [hG]; exact c.1
   obtain ⟨h1,h2,h3⟩:=ih (G.set (lookN vs n) e) (by rw [List.length_set]; exact hG) h
   refine ⟨fun j => ?_,?_,fun s hs => ?_⟩
   ·rw [h1 j,set_getD G _ j e hl]
    by_cases c1 : ∃ s,s ∈ r ∧ lookN vs s = j
    ·obtain ⟨s,hs,hj⟩:=c1
     rw [if_pos ⟨s,hs,hj⟩,if_pos ⟨s,List.mem_cons_of_mem _ hs,hj⟩]
    ·rw [if_neg c1]
     by_cases c2 : j = lookN vs n
     ·rw [if_pos c2,if_pos ⟨n,List.mem_cons_self,c2.symm⟩]
     ·rw [if_neg c2,if_neg]
      rintro ⟨s,hs,hj⟩
      rcases List.mem_cons.1 hs with rfl | hs
      ·exact c2 hj.symm
      ·exact c1 ⟨s,hs,hj⟩
   ·have h4:=cnt_set G _ e hl c.2 he
    rw [List.length_cons]
    omega
   ·rcases List.mem_cons.1 hs with rfl | hs
    ·exact c.2
    ·have h5:=h3 s hs
     rw [set_getD G _ _ e hl] at h5
     by_cases c2 : lookN vs s = lookN vs n
     ·rw [if_pos c2] at h5; exact absurd h5 he
     ·rw [if_neg c2] at h5; exact h5
  ·rw [if_neg c] at h
   cases h
structure GI (x : DNode) (G : List Int) (k : Nat) : Prop where
 len : G.length = (allV x).length
 inp : ∀ j,j < (allV x).length → j < x.ins.length → G.getD j 0 = -2
 giv : ∀ j (hj : j < (allV x).length),∀ v : Nat,G.getD j 0 = (v : Int) ↔ ∃ hv : v < x.eqs.length,v < k ∧ (allV x)[j].name ∈ x.eqs[v].lhs
 non : ∀ j (hj : j < (allV x).length),x.ins.length ≤ j → (G.getD j 0 = -1 ↔ (allV x)[j].name ∉ seenTo x.eqs k)
 cnt : G.countP (fun m => m == -1) + (seenTo x.eqs k).length = x.outs.length + x.vars.length
theorem GI.start (x : DNode) : GI x (giv0 x) 0:=by
 have hal : (allV x).length = x.ins.length + (x.outs.length + x.vars.length):=by
  unfold allV
  simp
 have hg : ∀ j,j < (allV x).length → (giv0 x).getD j 0 = if j < x.ins.length then -2 else -1:=fun j hj => by
  unfold giv0
  rw [List.getD_eq_getElem?_getD]
  by_cases c : j < x.ins.length
  ·rw [if_pos c,List.getElem?_append_left (by simpa using c),List.getElem?_replicate,if_pos c]
   rfl
  ·rw [if_neg c,List.getElem?_append_right (by simp; omega),List.getElem?_replicate,if_pos (by simp; omega)]
   rfl
 refine ⟨giv0_len x,fun j hj h => by rw [hg j hj,if_pos h],fun j hj v => ?_,fun j hj h => ?_,?_⟩
 ·constructor
  ·intro h
   rw [hg j hj] at h
   split at h <;> omega
  ·rintro ⟨_,h,_⟩; omega
 ·rw [hg j hj,if_neg (by omega)]
  simp [seenTo]
 ·unfold giv0 seenTo
  rw [List.countP_append,List.countP_replicate,List.countP_replicate]
  simp
theorem GI.step {x : DNode} {G : List Int} {k : Nat} (h : GI x G k) (hk : k < x.eqs.length) (hd : (defF (allV x) G x.eqs[k].lhs k).2 = true) (hdup : ∀ j (hj : j < (allV x).length),lookN (allV x) (allV x)[j].name = j) : GI x (defF (allV x) G x.eqs[k].lhs k).1 (k + 1):=by
 obtain ⟨h1,h2,h3⟩:=defF_all (vs:=allV x) (e:=(k : Int)) (by omega) x.eqs[k].lhs G h.len hd
 have hlk:=defF_true hd
 have hmem : ∀ j (hj : j < (allV x).length),(∃ s,s ∈ x.eqs[k].lhs ∧ lookN (allV x) s = j) ↔ (allV x)[j].name ∈ x.eqs[k].lhs:=fun j hj => by
  constructor
  ·rintro ⟨s,hs,rfl⟩
   rw [look_name (allV x) s hj]
   exact hs
  ·intro h9
   exact ⟨_,h9,hdup j hj⟩
 have hold : ∀ j (hj : j < (allV x).length),(allV x)[j].name ∈ x.eqs[k].lhs → G.getD j 0 = -1:=fun j hj h9 => by
  have h8:=h3 _ h9
  rw [hdup j hj] at h8
  exact h8
 have hsn : seenTo x.eqs (k + 1) = seenTo x.eqs k ++ x.eqs[k].lhs:=by
  rw [seenTo,List.getElem?_eq_getElem hk]
 refine ⟨by rw [defF_len]; exact h.len,fun j hj hi => ?_,fun j hj v => ?_,fun j hj hi => ?_,?_⟩
 ·rw [h1 j,if_neg]
  ·exact h.inp j hj hi
  ·intro h9
   have h8:=hold j hj ((hmem j hj).1 h9)
   rw [h.inp j hj hi] at h8
   cases h8
 ·rw [h1 j]
  by_cases c : ∃ s,s ∈ x.eqs[k].lhs ∧ lookN (allV x) s = j
  ·rw [if_pos c]
   have hin:=(hmem j hj).1 c
   have hm1:=hold j hj hin
   constructor
   ·intro hv
    have e : k = v:=by omega
    subst e
    exact ⟨hk,by omega,hin⟩
   ·rintro ⟨hv,h5,h6⟩
    by_cases c2 : v < k
    ·have h7:=(h.giv j hj v).2 ⟨hv,c2,h6⟩
     rw [hm1] at h7
     omega
    ·have e : v = k:=by omega
     rw [e]
  ·rw [if_neg c,h.giv j hj v]
   constructor
   ·rintro ⟨hv,h5,h6⟩; exact ⟨hv,by omega,h6⟩
   ·rintro ⟨hv,h5,h6⟩
    by_cases c2 : v < k
    ·exact ⟨hv,c2,h6⟩
    ·have e : v = k:=by omega
     subst e
     exact absurd ((hmem j hj).2 h6) c
 ·rw [h1 j,hsn,List.mem_append,not_or]
  by_cases c : ∃ s,s ∈ x.eqs[k].lhs ∧ lookN (allV x) s = j
  ·rw [if_pos c]
   have hin:=(hmem j hj).1 c
   constructor
   ·intro h9; omega
   ·intro h9; exact absurd hin h9.2
  ·rw [if_neg c,h.non j hj hi]
   constructor
   ·intro h9; exact ⟨h9,fun h8 => c ((hmem j hj).2 h8)⟩
   ·intro h9; exact h9.1
 ·rw [hsn,List.length_append]
  have:=h.cnt
  omega
theorem def_bad {x : DNode} (k : Int) (hk0 : k ≠ -1) (seen : List ByteArray) : ∀ (lhs : List ByteArray) (pre : List ByteArray) (G : List Int),G.length = (allV x).length → (∀ j (hj : j < (allV x).length),j < x.ins.length → G.getD j 0 ≠ -1) → (∀ j (hj : j < (allV x).length),x.ins.length ≤ j → (G.getD j 0 = -1 ↔ (allV x)[j].name ∉ seen ++ pre)) → (∀ j (hj : j < (allV x).length),lookN (allV x) (allV x)[j].name = j) →
  ((defF (allV x) G lhs k).2 = true ↔ ∀ m (hm : m < lhs.length),(x.ins.length : Int) ≤ lookI (allV x) lhs[m] ∧ lhs[m] ∉ seen ++ (pre ++ lhs.take m)):=by
 intro lhs
 induction lhs with
 | nil => intro pre G _ _ _ _; exact ⟨fun _ m hm => by simp at hm,fun _ => rfl⟩
 | cons n r ih =>
  intro pre G hG hI hN hD
  have key : (lookN (allV x) n < (allV x).length ∧ G.getD (lookN (allV x) n) 0 = -1) ↔ ((x.ins.length : Int) ≤ lookI (allV x) n ∧ n ∉ seen ++ pre):=by
   unfold lookI
   constructor
   ·rintro ⟨h1,h2⟩
    rw [if_pos h1]
    have h3 : x.ins.length ≤ lookN (allV x) n:=by
     rcases Nat.lt_or_ge (lookN (allV x) n) x.ins.length with h | h
     ·exact absurd h2 (hI _ h1 h)
     ·exact h
    refine ⟨by omega,?_⟩
    have h4:=(hN _ h1 h3).1 h2
    rw [look_name _ n h1] at h4
    exact h4
   ·rintro ⟨h1,h2⟩
    by_cases h3 : lookN (allV x) n < (allV x).length
    ·rw [if_pos h3] at h1
     refine ⟨h3,(hN _ h3 (by omega)).2 ?_⟩
     rw [look_name _ n h3]
     exact h2
    ·rw [if_neg h3] at h1
     omega
  unfold defF
  by_cases c : lookN (allV x) n < (allV x).length ∧ G.getD (lookN (allV x) n) 0 = -1
  ·rw [if_pos c]
   have hl : lookN (allV x) n < G.length:=by rw [hG]; exact c.1
   rw [ih (pre ++ [n]) (G.set (lookN (allV x) n) k) (by rw [List.length_set]; exact hG) (fun j hj hi => ?_) (fun j hj hi => ?_) hD]
   ·constructor
    ·intro h m hm
     cases m with
     | zero =>
      obtain ⟨k1,k2⟩:=key.1 c
      exact ⟨k1,by simpa using k2⟩
     | succ m =>
      have h9:=h m (by simpa using hm)
      rw [List.append_assoc] at h9
      exact h9
    ·intro h m hm
     have h9:=h (m + 1) (by simpa using hm)
     rw [List.append_assoc]
     exact h9
   ·rw [set_getD G _ j k hl]
    split
    ·exact hk0
    ·exact hI j hj hi
   ·rw [set_getD G _ j k hl]
    by_cases c2 : j = lookN (allV x) n
    ·rw [if_pos c2]
     subst c2
     constructor
     ·intro h; exact absurd h hk0
     ·intro h
      exfalso
      apply h
      rw [look_name _ n hj]
      simp
    ·rw [if_neg c2,hN j hj hi]
     have hne : (allV x)[j].name ≠ n:=fun e => c2 (by rw [← e]; exact (hD j hj).symm)
     rw [← List.append_assoc]
     simp [hne]
  ·rw [if_neg c]
   constructor
   ·intro h; cases h
   ·intro h
    have h9:=h 0 (by simp)
    exact absurd (key.2 ⟨h9.1,by simpa using h9.2⟩) c
theorem eqTail_eq (vs : List DVar) (e : DEq) (its ots : List Int) (ck : List DCond) : eqTail vs e its ots ck = if (tysTo vs (codesOf e) its (codesOf e).length && outsTo vs e.lhs ots e.lhs.length) = false then 6 else if (clksTo vs e.lhs ck e.lhs.length && fitsTo vs (codesOf e) ck (codesOf e).length) = false then 7 else 0:=by
 unfold eqTail
 cases tysTo vs (codesOf e) its (codesOf e).length <;> cases outsTo vs e.lhs ots e.lhs.length <;> cases clksTo vs e.lhs ck e.lhs.length <;> cases fitsTo vs (codesOf e) ck (codesOf e).length <;> rfl
theorem eqF_eq {ns : List DNode} {i : Nat} {vs : List DVar} {e : DEq} (heb : eqB e = true) : (if callB ns i e = false then (5 : Int) else if typB ns i vs e = false then 6 else if clkB vs e = false then 7 else 0) = eqFault ns i vs e:=by
 unfold eqFault callB typB clkB
 have hebx:=heb
 unfold eqB at hebx
 simp only [Bool.and_eq_true,decide_eq_true_iff] at hebx
 by_cases g : e.call.size = 0
 ·rw [if_pos g,if_pos g,if_pos g,if_neg (by simp),eqTail_eq]
  rw [if_pos g] at hebx
  simp only [Bool.and_eq_true,decide_eq_true_iff] at hebx
  have hl1 : e.lhs.length = 1:=hebx.2.1.1
  have hcod : codesOf e = [e.code]:=by unfold codesOf; rw [if_pos g]
  have ht : tysTo vs (codesOf e) [(firstV vs e).type] (codesOf e).length = (tyV vs e.code == (firstV vs e).type):=by
   rw [hcod]
   show (true && _) = _
   rw [Bool.true_and]
   rfl
  have ho : outsTo vs e.lhs [(firstV vs e).type] e.lhs.length = true:=by
   match hq : e.lhs,hl1 with
   | [s],_ =>
    show (true && ((lookV vs s).type == (firstV vs e).type)) = true
    unfold firstV
    rw [hq]
    simp
  rw [ht,ho,Bool.and_true]
 ·rw [if_neg g,if_neg g,if_neg g]
  have hcod : codesOf e = e.args:=by unfold codesOf; rw [if_neg g]
  cases hq : ns[(findI ns i e.call).toNat]? with
  | none => rfl
  | some gn =>
   simp only
   by_cases c : findI ns i e.call < 0 ∨ gn.ins.length ≠ e.args.length ∨ gn.outs.length ≠ e.lhs.length
   ·rw [if_pos c,if_pos (decide_eq_false (fun h => h c))]
   ·rw [if_neg c,if_neg (by rw [decide_eq_true c]; simp),eqTail_eq,hcod]
theorem first_congr {p q : Nat → Bool} : ∀ {n : Nat},(∀ k,k < n → (∀ j,j < k → p j = false) → p k = q k) → firstTo p n = firstTo q n:=by
 intro n
 induction n with
 | zero => intro _; rfl
 | succ n ih =>
  intro h
  have e1:=ih (fun k hk => h k (by omega))
  unfold firstTo
  rw [← e1]
  cases hp : firstTo p n with
  | some k => rfl
  | none =>
   have hno : ∀ j,j < n → p j = false:=fun j hj => by
    cases hj2 : p j with
    | false => rfl
    | true =>
     have h9:=first_some hj hj2
     rw [hp] at h9
     cases h9
   rw [h n (by omega) hno]
theorem first_val {p : Nat → Bool} : ∀ {n k : Nat},firstTo p n = some k → k < n ∧ p k = true ∧ ∀ j,j < k → p j = false:=by
 intro n
 induction n with
 | zero => intro k h; cases h
 | succ n ih =>
  intro k h
  unfold firstTo at h
  cases hp : firstTo p n with
  | some m =>
   rw [hp] at h
   simp only [Option.some.injEq] at h
   subst h
   obtain ⟨h1,h2,h3⟩:=ih hp
   exact ⟨by omega,h2,h3⟩
  | none =>
   rw [hp] at h
   simp only at h
   split at h
   ·rename_i hn
    simp only [Option.some.injEq] at h
    subst h
    refine ⟨by omega,hn,fun j hj => ?_⟩
    cases hj2 : p j with
    | false => rfl
    | true =>
     have h9:=first_some hj hj2
     rw [hp] at h9
     cases h9
   ·cases h
theorem first_no {p : Nat → Bool} {n : Nat} (h : firstTo p n = none) : ∀ j,j < n → p j = false:=fun j hj => by
 cases hj2 : p j with
 | false => rfl
 | true =>
  have h9:=first_some hj hj2
  rw [h] at h9
  cases h9
theorem dup_all {vs : List DVar} (h : firstTo (dupB vs) vs.length = none) : ∀ j (hj : j < vs.length),lookN vs vs[j].name = j:=fun j hj => by
 have h1:=first_no h j hj
 rw [dup_look vs j hj] at h1
 have h2:=of_decide_eq_false h1
 have h3:=look_self vs j hj
 omega
theorem gi_all {ns : List DNode} {i : Nat} {x : DNode} (hdup : ∀ j (hj : j < (allV x).length),lookN (allV x) (allV x)[j].name = j) : ∀ k,k ≤ x.eqs.length → (∀ j,j < k → eqI ns i x (giv0 x) j = 0) → GI x (givTo x (giv0 x) k) k:=by
 intro k
 induction k with
 | zero => intro _ _; exact GI.start x
 | succ k ih =>
  intro hk h
  have h1:=ih (by omega) (fun j hj => h j (by omega))
  have h2:=h k (by omega)
  rw [eqI_at _ _ _ _ _ (by omega)] at h2
  have h3:=h1.step (by omega) (eqV_zero h2).1 hdup
  rw [givTo,List.getElem?_eq_getElem (by omega)]
  exact h3
theorem eq_same {ns : List DNode} {i : Nat} {x : DNode} (hxb : nodeB x = true) (hdup : ∀ j (hj : j < (allV x).length),lookN (allV x) (allV x)[j].name = j) (k : Nat) (hk : k < x.eqs.length) (h : ∀ j,j < k → eqI ns i x (giv0 x) j = 0) : eqI ns i x (giv0 x) k = eqCode ns i x k:=by
 have hg:=gi_all hdup k (by omega) h
 have heb : eqB x.eqs[k] = true:=List.all_eq_true.1 ((node_iff x).1 hxb).2.2.2.2.2 _ (List.getElem_mem hk)
 rw [eqI_at _ _ _ _ _ hk,eq_at ns i x k hk]
 have hiff:=def_bad (x:=x) (k : Int) (by omega) (seenTo x.eqs k) x.eqs[k].lhs [] (givTo x (giv0 x) k) hg.len (fun j hj hi => by rw [hg.inp j hj hi]; decide) (fun j hj hi => by rw [List.append_nil]; exact hg.non j hj hi) hdup
 unfold eqV
 cases hd : (defF (allV x) (givTo x (giv0 x) k) x.eqs[k].lhs k).2 with
 | false =>
  rw [if_pos rfl,if_pos]
  cases hf : firstTo (lhsBad (allV x) x.ins.length (seenTo x.eqs k) x.eqs[k].lhs) x.eqs[k].lhs.length with
  | some m => rfl
  | none =>
   exfalso
   have hall:=hiff.2 (fun m hm => by
    have h9:=first_no hf m hm
    rw [lhs_at _ _ _ _ _ hm,Bool.or_eq_false_iff] at h9
    refine ⟨by have:=of_decide_eq_false h9.1; omega,fun h8 => ?_⟩
    rw [List.nil_append] at h8
    rw [(inB_iff _ _).2 h8] at h9
    cases h9.2)
   rw [hd] at hall
   cases hall
 | true =>
  have hnone : (firstTo (lhsBad (allV x) x.ins.length (seenTo x.eqs k) x.eqs[k].lhs) x.eqs[k].lhs.length).isSome = false:=by
   rw [first_none]
   ·rfl
   ·intro m hm
    obtain ⟨h1,h2⟩:=hiff.1 hd m hm
    rw [lhs_at _ _ _ _ _ hm,decide_eq_false (by omega),Bool.false_or]
    cases hb : inB (seenTo x.eqs k ++ x.eqs[k].lhs.take m) x.eqs[k].lhs[m] with
    | false => rfl
    | true => exact absurd ((inB_iff _ _).1 hb) (by rw [List.nil_append] at h2; exact h2)
  rw [hnone,if_neg (show ¬ (true = false) by simp),if_neg (show ¬ (false = true) by simp)]
  exact eqF_eq heb
theorem miss_eq {x : DNode} {G : List Int} (h : GI x G x.eqs.length) : missF (allV x).length G x.eqs.length = if (seenTo x.eqs x.eqs.length).length ≠ x.outs.length + x.vars.length then (4,(x.eqs.length : Int)) else (0,0):=by
 unfold missF
 have hc:=h.cnt
 by_cases c : (seenTo x.eqs x.eqs.length).length ≠ x.outs.length + x.vars.length
 ·rw [if_pos c]
  have hpos : 0 < G.countP (fun m => m == -1):=by omega
  obtain ⟨m,hm,hm1⟩:=List.countP_pos_iff.1 hpos
  obtain ⟨k,hk,rfl⟩:=List.mem_iff_getElem.1 hm
  have h9 : (firstTo (fun k => G.getD k 0 == -1) (allV x).length).isSome = true:=first_some (k:=k) (by rw [← h.len]; exact hk) (by
   rw [List.getD_eq_getElem?_getD,List.getElem?_eq_getElem hk]
   exact hm1)
  cases hq : firstTo (fun k => G.getD k 0 == -1) (allV x).length with
  | none => rw [hq] at h9; cases h9
  | some k => rfl
 ·rw [if_neg c,first_none]
  intro j hj
  cases hb : (G.getD j 0 == -1) with
  | false => rfl
  | true =>
   exfalso
   have hjl : j < G.length:=by rw [h.len]; exact hj
   have hpos : 0 < G.countP (fun m => m == -1):=List.countP_pos_iff.2 ⟨G[j],List.getElem_mem hjl,by
    rw [List.getD_eq_getElem?_getD,List.getElem?_eq_getElem hjl] at hb
    exact hb⟩
   omega
def Pt (E : Nat → Nat → Prop) : Nat → Nat → Nat → Prop
 | 0,a,b => E a b
 | k + 1,a,b => Pt E k a b ∨ (Pt E k a k ∧ Pt E k k b)
theorem pt_join {E : Nat → Nat → Prop} : ∀ k a b c,c < k → Pt E k a c → Pt E k c b → Pt E k a b:=by
 intro k
 induction k with
 | zero => intro a b c hc; omega
 | succ k ih =>
  intro a b c hc h1 h2
  by_cases e : c = k
  ·subst e
   have g1 : Pt E c a c:=by rcases h1 with h | h; exact h; exact h.1
   have g2 : Pt E c c b:=by rcases h2 with h | h; exact h; exact h.2
   exact Or.inr ⟨g1,g2⟩
  ·have hck : c < k:=by omega
   rcases h1 with h1 | ⟨h1,h1'⟩
   ·rcases h2 with h2 | ⟨h2,h2'⟩
    ·exact Or.inl (ih a b c hck h1 h2)
    ·exact Or.inr ⟨ih a k c hck h1 h2,h2'⟩
   ·rcases h2 with h2 | ⟨h2,h2'⟩
    ·exact Or.inr ⟨h1,ih k b c hck h1' h2⟩
    ·exact Or.inr ⟨h1,h2'⟩
theorem pt_up {E : Nat → Nat → Prop} {a b : Nat} (h : E a b) : ∀ k,Pt E k a b:=by
 intro k
 induction k with
 | zero => exact h
 | succ k ih => exact Or.inl ih
theorem tg_pt {E : Nat → Nat → Prop} {n : Nat} (hE : ∀ a b,E a b → a < n ∧ b < n) {a b : Nat} (h : Tg E a b) : Pt E n a b:=by
 induction h using Tg.ind with
 | one h => exact pt_up h n
 | snoc h k ih => exact pt_join n _ _ _ (hE _ _ k).1 ih (pt_up k n)
theorem wStep_mono (k i j : Nat) (M : Mat) {a b : Nat} (h : M a b = true) : wStep k i j M a b = true:=by
 unfold wStep
 split
 ·unfold upd; rw [h]; rfl
 ·exact h
theorem wJ_mono (k i : Nat) (M : Mat) : ∀ n {a b : Nat},M a b = true → wJ k i M n a b = true:=by
 intro n
 induction n with
 | zero => intro a b h; exact h
 | succ n ih => intro a b h; unfold wJ; exact wStep_mono _ _ _ _ (ih h)
theorem wJ_hit (k i : Nat) (M : Mat) : ∀ n {b : Nat},b < n → M i k = true → M k b = true → wJ k i M n i b = true:=by
 intro n
 induction n with
 | zero => intro b hb; omega
 | succ n ih =>
  intro b hb h1 h2
  unfold wJ
  by_cases c : b = n
  ·subst c
   unfold wStep
   rw [wJ_mono k i M b h1,wJ_mono k i M b h2]
   simp [upd]
  ·exact wStep_mono _ _ _ _ (ih (by omega) h1 h2)
theorem wI_mono (N k : Nat) (M : Mat) : ∀ n {a b : Nat},M a b = true → wI N k M n a b = true:=by
 intro n
 induction n with
 | zero => intro a b h; exact h
 | succ n ih => intro a b h; unfold wI; exact wJ_mono _ _ _ _ (ih h)
theorem wI_hit (N k : Nat) (M : Mat) : ∀ n {a b : Nat},a < n → b < N → M a k = true → M k b = true → wI N k M n a b = true:=by
 intro n
 induction n with
 | zero => intro a b ha; omega
 | succ n ih =>
  intro a b ha hb h1 h2
  unfold wI
  by_cases c : a = n
  ·subst c
   exact wJ_hit _ _ _ _ hb (wI_mono N k M a h1) (wI_mono N k M a h2)
  ·exact wJ_mono _ _ _ _ (ih (by omega) hb h1 h2)
theorem wK_pt (N : Nat) (M : Mat) : ∀ k,k ≤ N → ∀ a b,a < N → b < N → Pt (fun a b => M a b = true) k a b → wK N M k a b = true:=by
 intro k
 induction k with
 | zero => intro _ a b _ _ h; exact h
 | succ k ih =>
  intro hk a b ha hb h
  unfold wK
  rcases h with h | ⟨h1,h2⟩
  ·exact wI_mono _ _ _ _ (ih (by omega) a b ha hb h)
  ·exact wI_hit _ _ _ _ ha hb (ih (by omega) a k ha (by omega) h1) (ih (by omega) k b (by omega) hb h2)
theorem wStep_tg {E : Nat → Nat → Prop} {k i j : Nat} {M : Mat} (h : ∀ a b,M a b = true → Tg E a b) : ∀ a b,wStep k i j M a b = true → Tg E a b:=by
 intro a b h1
 unfold wStep at h1
 split at h1
 ·rename_i hc
  rw [Bool.and_eq_true] at hc
  unfold upd at h1
  rw [Bool.or_eq_true] at h1
  rcases h1 with h1 | h1
  ·exact h a b h1
  ·rw [Bool.and_eq_true,beq_iff_eq,beq_iff_eq] at h1
   rw [h1.1,h1.2]
   exact (h _ _ hc.1).trans (h _ _ hc.2)
 ·exact h a b h1
theorem wJ_tg {E : Nat → Nat → Prop} {k i : Nat} {M : Mat} (h : ∀ a b,M a b = true → Tg E a b) : ∀ n a b,wJ k i M n a b = true → Tg E a b:=by
 intro n
 induction n with
 | zero => exact h
 | succ n ih => intro a b h1; unfold wJ at h1; exact wStep_tg ih a b h1
theorem wI_tg {E : Nat → Nat → Prop} {N k : Nat} {M : Mat} (h : ∀ a b,M a b = true → Tg E a b) : ∀ n a b,wI N k M n a b = true → Tg E a b:=by
 intro n
 induction n with
 | zero => exact h
 | succ n ih => intro a b h1; unfold wI at h1; exact wJ_tg ih N a b h1
theorem wK_tg {E : Nat → Nat → Prop} {N : Nat} {M : Mat} (h : ∀ a b,M a b = true → Tg E a b) : ∀ n a b,wK N M n a b = true → Tg E a b:=by
 intro n
 induction n with
 | zero => exact h
 | succ n ih => intro a b h1; unfold wK at h1; exact wI_tg ih N a b h1
theorem diag_iff (M : Mat) (n : Nat) : diag M n = true ↔ ∃ u,u < n ∧ M u u = true:=by
 induction n with
 | zero => simp [diag]
 | succ n ih =>
  unfold diag
  rw [Bool.or_eq_true,ih]
  constructor
  ·rintro (⟨u,h1,h2⟩ | h)
   ·exact ⟨u,by omega,h2⟩
   ·exact ⟨n,by omega,h⟩
  ·rintro ⟨u,h1,h2⟩
   by_cases c : u = n
   ·subst c; exact Or.inr h2
   ·exact Or.inl ⟨u,by omega,h2⟩
end Go.Proofs.YtfioeoihociilaaGreat
