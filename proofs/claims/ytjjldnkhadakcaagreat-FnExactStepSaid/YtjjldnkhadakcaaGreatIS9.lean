import Derived.Test.YtjjldnkhadakcaaGreatIS3
namespace Go.Proofs.YtjjldnkhadakcaaGreat
open Go.RowKit
set_option linter.unusedSimpArgs false
set_option linter.unusedVariables false
def CarOK (W Wm : World) (ks : List DClass) (pl : List Nat) (g : Nat) (gc : DClass) (C : CF) (t : PL) : Prop :=
 ∀ (w : World) (base fb pb mb B : Nat) (L : List Int) (sv vv pv stk : Value) (so vo rest : Nat) (sa pa : Option Addr) (x : VS) (X : BD) (nodes : List (TypeId × Nat)) (bv : Value),
  Dyn W w base fb pb B L sv vv pv stk → Geo B L so vo rest sa pa sv vv pv x.1 x.2 → PlIn W pb mb (varsOf gc) → SOK (varsOf gc).length (fAt ks g).length x → rN ks g ≤ (varsOf gc).length + rest → X.k = gc → X.Wm = Wm → InsIn pl (fTo ks g) gc X.ins → SlAt 1 16 RIf 0 W bv nodes → NodesAt X (fun _ => True) W t nodes → (∀ s,s ∈ t.flat → stmB ks gc s = true) → t.wf →
  Calls Tryz.prog 64 #[.pointer (some ⟨fb,0,none⟩),bv] w (CarPost W base fb pb B L sv vv pv stk so vo rest sa pa (fAt ks g).length (varsOf gc).length (runR ks gc C t x).1 (runR ks gc C t x).2 w)
def CallOK (W Wm : World) (ks : List DClass) (pl : List Nat) (i : Nat) (k : DClass) (C : CF) : Prop :=
 ∀ (w : World) (base fb pb mb B : Nat) (L : List Int) (sv vv pv stk : Value) (so vo rest : Nat) (sa pa : Option Addr) (x : VS) (X : BD) (s : DStm) (nb : Nat),
  Dyn W w base fb pb B L sv vv pv stk → Geo B L so vo rest sa pa sv vv pv x.1 x.2 → PlIn W pb mb (varsOf k) → SOK (varsOf k).length (fAt ks i).length x → rN ks i ≤ (varsOf k).length + rest → X.k = k → X.Wm = Wm → InsIn pl (fTo ks i) k X.ins → LeafAt X (fun _ => True) W (144,nb) s → stmB ks k s = true →
  Calls Tryz.prog 89 #[.pointer (some ⟨fb,0,none⟩),.pointer (some ⟨nb,0,none⟩)] w (CarPost W base fb pb B L sv vv pv stk so vo rest sa pa (fAt ks i).length (varsOf k).length (leafR ks k C s x).1 ((leafR ks k C s x).2 - 1) w)
theorem car_value {W Wm w0 w : World} {ks : List DClass} {i : Nat} {k : DClass} (hk : ks[i]? = some k) (hp : plansB ks = true) (hold : Below Wm.heap.size Wm W) {base fb pb mb B : Nat} {L0 L : List Int} {sv vv pv stk0 stk : Value} {so vo rest : Nat} {sa pa : Option Addr} {x : VS} (hP : PlIn W pb mb (varsOf k)) (h : CarIn W w0 w base fb pb B L0 L sv vv pv stk0 stk so vo rest sa pa (fAt ks i).length (varsOf k).length x) (hx : SOK (varsOf k).length (fAt ks i).length x) (code : List DItem) (cv : Value) (hcv : SlAt 3 32 RItem 0 Wm cv code) (hm : mcB k code = true) :
  Calls Tryz.prog 88 #[.pointer (some ⟨fb,0,none⟩),cv] w (VaPost W base fb pb B L sv vv pv stk (valF (varsOf k) x.1 x.2 code) w) ∧ Q32 (valF (varsOf k) x.1 x.2 code):=by
 obtain ⟨o1,_,_⟩:=off_facts ks i k hk hp
 obtain ⟨m1,m2,_⟩:=mc_parts k code hm
 obtain ⟨v1,v2,v3⟩:=val_of hx o1 code hm
 exact ⟨value_ok W w base fb pb B L sv vv pv stk h.dyn so vo rest sa pa x.1 x.2 h.geo mb (varsOf k) hP code cv (hcv.stays RItem_kept hold) v3 m1 _ v1 m2,v2⟩
theorem wrap_add (a b : Int) : IntKind.i64.wrap (IntKind.i64.wrap a + b) = IntKind.i64.wrap (a + b):=by
 rw [IntKind.wrap_i64,IntKind.wrap_i64,IntKind.wrap_i64]
 omega
theorem wrap_add2 (a b : Int) : IntKind.i64.wrap (IntKind.i64.wrap a + IntKind.i64.wrap b) = IntKind.i64.wrap (a + b):=by
 rw [IntKind.wrap_i64,IntKind.wrap_i64,IntKind.wrap_i64,IntKind.wrap_i64]
 omega
theorem wrap64_is (a : Int) : wrap64 a = IntKind.i64.wrap a:=by
 rw [IntKind.wrap_i64]
 unfold wrap64
 rfl
theorem w64_one (c : Int) : wrap64 (wrap64 c + 1) = IntKind.i64.wrap (c + 1):=by
 rw [wrap64_is,wrap64_is,wrap_add]
theorem w64_call (c d : Int) : wrap64 (wrap64 (wrap64 c + 1) + wrap64 (d - 1)) = IntKind.i64.wrap (c + d):=by
 simp only [wrap64_is]
 rw [IntKind.wrap_i64,IntKind.wrap_i64,IntKind.wrap_i64,IntKind.wrap_i64,IntKind.wrap_i64]
 omega
theorem w64_br (c d : Int) : wrap64 (wrap64 (wrap64 c + 1) + wrap64 d) = IntKind.i64.wrap (c + (1 + d)):=by
 simp only [wrap64_is]
 rw [IntKind.wrap_i64,IntKind.wrap_i64,IntKind.wrap_i64,IntKind.wrap_i64,IntKind.wrap_i64]
 omega
theorem stm_tail {ks : List DClass} {k : DClass} {s : DStm} (h : stmB ks k s = true) : stmTail ks k s = true:=by
 rw [stm_un,Bool.and_eq_true] at h
 exact h.2
theorem in_place {vs : List ByteArray} {x : ByteArray} (h : inB vs x = true) : ∃ p : Nat,placeI vs x = (p : Int) ∧ p < vs.length:=by
 have h1:=place_bd vs x
 rw [inB_place] at h
 have h2:=of_decide_eq_true h
 obtain ⟨p,hp⟩:=Int.eq_ofNat_of_zero_le (show 0 ≤ placeI vs x by omega)
 exact ⟨p,hp,by omega⟩
theorem set_place {k : DClass} {x : ByteArray} (h : setB k x = true) : ∃ p : Nat,placeI (varsOf k) x = (p : Int) ∧ p < (varsOf k).length:=by
 have h1:=place_bd (varsOf k) x
 unfold setB at h
 have h2:=of_decide_eq_true h
 obtain ⟨p,hp⟩:=Int.eq_ofNat_of_zero_le (show 0 ≤ placeI (varsOf k) x by omega)
 exact ⟨p,hp,by omega⟩
theorem ta_setting_setting (v : Value) (w : World) : (Instr.typeAssert (.iface 135 v) 134 135 true).run Tryz.prog w = .ok (.tuple #[v,.bool true]) w:=by kernel_rfl
theorem ta_saving_setting (v : Value) (w : World) : (Instr.typeAssert (.iface 141 v) 134 135 true).run Tryz.prog w = .ok (.tuple #[.pointer none,.bool false]) w:=by kernel_rfl
theorem ta_saving_saving (v : Value) (w : World) : (Instr.typeAssert (.iface 141 v) 134 141 true).run Tryz.prog w = .ok (.tuple #[v,.bool true]) w:=by kernel_rfl
theorem ta_calling_setting (v : Value) (w : World) : (Instr.typeAssert (.iface 144 v) 134 135 true).run Tryz.prog w = .ok (.tuple #[.pointer none,.bool false]) w:=by kernel_rfl
theorem ta_calling_saving (v : Value) (w : World) : (Instr.typeAssert (.iface 144 v) 134 141 true).run Tryz.prog w = .ok (.tuple #[.pointer none,.bool false]) w:=by kernel_rfl
theorem ta_calling_calling (v : Value) (w : World) : (Instr.typeAssert (.iface 144 v) 134 144 true).run Tryz.prog w = .ok (.tuple #[v,.bool true]) w:=by kernel_rfl
theorem ta_branching_setting (v : Value) (w : World) : (Instr.typeAssert (.iface 146 v) 134 135 true).run Tryz.prog w = .ok (.tuple #[.pointer none,.bool false]) w:=by kernel_rfl
theorem ta_branching_saving (v : Value) (w : World) : (Instr.typeAssert (.iface 146 v) 134 141 true).run Tryz.prog w = .ok (.tuple #[.pointer none,.bool false]) w:=by kernel_rfl
theorem ta_branching_calling (v : Value) (w : World) : (Instr.typeAssert (.iface 146 v) 134 144 true).run Tryz.prog w = .ok (.tuple #[.pointer none,.bool false]) w:=by kernel_rfl
theorem ta_branching_branching (v : Value) (w : World) : (Instr.typeAssert (.iface 146 v) 134 146 true).run Tryz.prog w = .ok (.tuple #[v,.bool true]) w:=by kernel_rfl
structure CarAt (W w0 w : World) (ks : List DClass) (i : Nat) (k : DClass) (C : CF) (t : PL) (x : VS) (X : BD) (nodes : List (TypeId × Nat)) (base fb pb B : Nat) (L0 : List Int) (sv vv pv stk0 : Value) (so vo rest : Nat) (sa pa : Option Addr) (q : Nat) (r : PL) (y : VS) (c : Int) (L : List Int) (stk : Value) : Prop where
 at_ : NodesAt X (fun _ => True) W r (nodes.drop q)
 fl : r.flat.length ≤ t.flat.length
 wf : r.wf
 stm : ∀ s,s ∈ r.flat → stmB ks k s = true
 r1 : (runR ks k C t x).1 = (runR ks k C r y).1
 r2 : (runR ks k C t x).2 = c + (runR ks k C r y).2
 sok : SOK (varsOf k).length (fAt ks i).length y
 car : CarIn W w0 w base fb pb B L0 L sv vv pv stk0 stk so vo rest sa pa (fAt ks i).length (varsOf k).length y
set_option maxRecDepth 20000 in
set_option maxHeartbeats 16000000 in
theorem carry_step {W Wm : World} {ks : List DClass} {b0 o0 mc : Nat} {pl : List Nat} (hE : PEnv W Wm ks b0 o0 mc pl) (i : Nat) (k : DClass) (hk : ks[i]? = some k) (C : CF) (hW9 : WOK9 ks i C) (hCall : CallOK W Wm ks pl i k C) (t : PL) (hIH : ∀ a : PL,a.flat.length < t.flat.length → CarOK W Wm ks pl i k C a) : CarOK W Wm ks pl i k C t:=by
 intro w base fb pb mb B L sv vv pv stk so vo rest sa pa x X nodes bv hD hG hP hx hroom hXk hXm hins hbv hnodes hstm hwf
 have HST : Hid (CarAt W w w ks i k C t x X nodes base fb pb B L sv vv pv stk so vo rest sa pa 0 t x 0 L stk):=⟨hnodes,Nat.le_refl _,hwf,hstm,rfl,by omega,hx,CarIn.refl hD hG hx.vl hx.sl⟩
 obtain ⟨ba,bc,rfl⟩:=hbv.shape
 have hbl:=hbv.lenI
 have HBV:=hide hbv
 have HP:=hide hP
 have HIH:=hide hIH
 have HCALL:=hide hCall
 have HINS:=hide hins
 have HROOM:=hide hroom
 have HXK:=hide hXk
 have HXM:=hide hXm
 have HE:=hide hE
 have HK:=hide hk
 have HW9:=hide hW9
 clear hE hk hW9 hCall hIH hD hG hP hx hroom hXk hXm hins hbv hnodes hstm hwf
 obtain ⟨PO,hPO⟩ : ∃ PO : Ending → World → Prop,PO = CarPost W base fb pb B L sv vv pv stk so vo rest sa pa (fAt ks i).length (varsOf k).length (runR ks k C t x).1 (runR ks k C t x).2 w:=⟨_,rfl⟩
 have HPO:=hide hPO
 rw [← hPO]
 clear hPO
 go_enter Tryz.func64,Tryz.ntmps64
 go_wp2
 go_loopg [5,14] nodes.length (fun gm kv iv wr => ∃ (q : Nat) (r : PL) (y : VS) (c : Int) (L1 : List Int) (stk1 : Value),q ≤ nodes.length ∧ gm = nodes.length - q ∧ iv = .int .i64 q ∧ kv = .int .i64 (IntKind.i64.wrap c) ∧ CarAt W w wr ks i k C t x X nodes base fb pb B L sv vv pv stk so vo rest sa pa q r y c L1 stk1)
 case atStart => exact ⟨0,t,x,0,L,stk,Nat.zero_le _,by omega,rfl,rfl,uh HST⟩
 case round =>
  obtain ⟨q,r,y,c,L1,stk1,hq,hg,rfl,rfl,ha⟩:=hrel
  rename World => wr
  clear HST
  have HG9:=hide hg
  have HA:=hide ha
  by_cases hlt : q < nodes.length
  case neg =>
   have hdr : nodes.drop q = []:=List.drop_eq_nil_of_le (by omega)
   have hat:=ha.at_
   rw [hdr] at hat
   have hr:=hat.none
   subst hr
   have HFIN : Hid (PO (.returned (.int .i64 (IntKind.i64.wrap c))) wr):=by
    refine hide ?_
    have e2 : (runR ks k C t x).2 = c:=by have:=ha.r2; simp only [runR] at this; omega
    rw [uh HPO,e2,show (runR ks k C t x).1 = y from ha.r1]
    exact CarPost.of ha.car rfl
   have hqI : ¬ (q : Int) < (nodes.length : Int):=by omega
   clear hat hdr ha HA HPO hg
   go_wp2
   exact uh HFIN
  have hdr : nodes.drop q = nodes[q] :: nodes.drop (q + 1):=List.drop_eq_getElem_cons hlt
  obtain ⟨_,_,hve,_,_,hxx⟩:=(uh HBV).stays RIf_kept ha.car.dyn.old
  simp only [Value.slice.injEq] at hve
  obtain ⟨rfl,_,rfl⟩:=hve
  obtain ⟨cb,co,cs,rfl,_,hcb,hcs,hcc,hRR⟩:=hxx q hlt
  have hRR : cs = [.iface nodes[q].1 (.pointer (some ⟨nodes[q].2,0,none⟩))]:=hRR
  subst hRR
  have c0:=hcc 0 (by simp)
  simp only [Nat.mul_one,Nat.add_zero,List.getElem_cons_zero] at c0
  have hat:=ha.at_
  rw [hdr] at hat
  have hqI : (q : Int) < (nodes.length : Int):=by omega
  have HLT:=hide hlt
  clear hxx hcc hcs hcb hdr ha hg
  generalize nodes[q] = nd at *
  obtain ⟨nt,nb⟩:=nd
  simp only at c0 hat
  cases r using PL.inv with
  | nil => exact absurd hat (by simp [NodesAt])
  | leaf s r' =>
   obtain ⟨x',ns',h1,_,hleaf,hrest⟩:=hat
   simp only [List.cons.injEq] at h1
   obtain ⟨rfl,rfl⟩:=h1
   have hsb:=(uh HA).stm s (by simp [PL.flat])
   have hwf:=(uh HA).wf
   have HN1 : Hid (∀ L2 stk2 w2,CarIn W w w2 base fb pb B L L2 sv vv pv stk stk2 so vo rest sa pa (fAt ks i).length (varsOf k).length (leafR ks k C s y).1 → CarAt W w w2 ks i k C t x X nodes base fb pb B L sv vv pv stk so vo rest sa pa (q + 1) r' (leafR ks k C s y).1 (c + (leafR ks k C s y).2) L2 stk2):=fun L2 stk2 w2 h2 => by
    have h9:=uh HA
    refine ⟨hrest,?_,hwf.2,fun s' h' => h9.stm s' (List.mem_cons_of_mem _ h'),h9.r1,?_,leaf_sok ks i k (uh HK) (uh HE).hp C (uh HW9) s hsb hwf.1 y h9.sok,h2⟩
    ·have:=h9.fl
     simp only [PL.flat,List.length_cons] at this
     omega
    ·rw [h9.r2]
     simp only [runR]
     omega
   rcases hleaf with ⟨k1,e1,cv,hb,hcv⟩ | ⟨k2,e1,cv,hb,hcv⟩ | hleaf
   ·as_aux_lemma =>
     have ht:=stm_tail hsb
     unfold stmTail at ht
     rw [if_pos k1,Bool.and_eq_true] at ht
     obtain ⟨p,hp,hpl⟩:=set_place ht.1
     rw [uh HXM] at hcv
     rw [uh HXK,hp] at hb
     have hlr : leafR ks k C s y = ((y.1.set p (valF (varsOf k) y.1 y.2 s.code),y.2),1):=by
      unfold leafR
      rw [if_pos k1,hp,Int.toNat_natCast]
     rw [hlr] at HN1
     simp only at e1
     subst e1
     have hcar:=(uh HA).car.below (w2:=wr.drew) (Below.refl _ _).drew
     obtain ⟨hva,hq32⟩:=car_value (uh HK) (uh HE).hp (uh HE).old (uh HP) hcar (uh HA).sok s.code cv hcv ht.2
     obtain ⟨ca,cc,rfl⟩:=hcv.shape
     have HNB:=hide hb
     have HPL:=hide hpl
     have HS : Hid (∀ L2 stk2 w2 x2,CarIn W w w2 base fb pb B L L2 sv vv pv stk stk2 so vo rest sa pa (fAt ks i).length (varsOf k).length x2 → (w2.cell? ⟨B,vo + p,none⟩ = some (.int .i32 (L2.getD (vo + p) 0)) ∧ w2.frozen? ⟨B,vo + p,none⟩ = false) ∧ w2.cell? ⟨fb,2,none⟩ = some (.slice (some ⟨B,vo,none⟩) (varsOf k).length (varsOf k).length) ∧ w2.cell? ⟨nb,1,none⟩ = some (.int .i64 (p : Int)) ∧ w2.cell? ⟨nb,2,none⟩ = some (.slice ca s.code.length cc)):=fun L2 stk2 w2 x2 h2 => by
      have g1:=h2.geo.vl
      have g2:=h2.geo.sl
      have g3:=h2.vl
      have g4:=h2.sl
      have g5:=uh HPL
      have hn2:=(uh HNB).below h2.dyn.old (uh HNB).lt
      refine ⟨⟨row_cell h2.dyn.row _ (by omega),h2.dyn.row.free _⟩,?_,hn2.cell (i:=1) rfl,hn2.cell (i:=2) rfl⟩
      have h9:=h2.dyn.fr.cell (i:=2) (v:=vv) rfl
      rw [h2.geo.vv,h2.vl] at h9
      exact h9
     have HVA : Hid (Calls Tryz.prog 88 #[.pointer (some ⟨fb,0,none⟩),.slice ca s.code.length cc] wr.drew fun e w' => e = .returned (.int .i32 (valF (varsOf k) y.1 y.2 s.code)) ∧ Hid (∃ stk2,CarIn W w w' base fb pb B L L1 sv vv pv stk stk2 so vo rest sa pa (fAt ks i).length (varsOf k).length y) ∧ (w'.cell? ⟨B,vo + p,none⟩ = some (.int .i32 (L1.getD (vo + p) 0)) ∧ w'.frozen? ⟨B,vo + p,none⟩ = false) ∧ w'.cell? ⟨fb,2,none⟩ = some (.slice (some ⟨B,vo,none⟩) (varsOf k).length (varsOf k).length) ∧ w'.cell? ⟨nb,1,none⟩ = some (.int .i64 (p : Int)) ∧ w'.cell? ⟨nb,2,none⟩ = some (.slice ca s.code.length cc)):=by
      refine hide (hva.mono ?_)
      rintro e w' ⟨rfl,stk2,hD2,hb2,hm2⟩
      have h2:=hcar.val hD2 hb2 hm2
      exact ⟨rfl,⟨stk2,h2⟩,uh HS _ _ _ _ h2⟩
     have HFIN : Hid (∀ w1,(∃ stk2,CarIn W w w1 base fb pb B L L1 sv vv pv stk stk2 so vo rest sa pa (fAt ks i).length (varsOf k).length y) → ∃ stk2,CarIn W w (w1.setCell ⟨B,vo + p,none⟩ (.int .i32 (valF (varsOf k) y.1 y.2 s.code))) base fb pb B L (L1.set (vo + p) (valF (varsOf k) y.1 y.2 s.code)) sv vv pv stk stk2 so vo rest sa pa (fAt ks i).length (varsOf k).length (y.1.set p (valF (varsOf k) y.1 y.2 s.code),y.2)):=fun w1 ⟨stk2,h2⟩ => ⟨stk2,h2.setV p (by have h8:=uh HPL; have h9:=h2.vl; omega) _ hq32⟩
     have s0:=uh HS _ _ _ _ (uh HA).car
     obtain ⟨_,s1,s2,s3⟩:=s0
     have hpI : (p : Int) < ((varsOf k).length : Int):=by omega
     have hln : (varsOf k).length ≤ 1000000:=by
      have g1:=hcar.geo.vl
      have g2:=hcar.geo.sl
      have g3:=hcar.vl
      have g4:=hcar.sl
      have g5:=hcar.geo.ln
      omega
     generalize valF (varsOf k) y.1 y.2 s.code = val at *
     clear ht hp hpl hb hcv hlr hcar hva hq32 hrest hsb hwf HNB HPL HIH HCALL
     generalize s.code.length = sn at *
     generalize L1.getD (vo + p) 0 = old at *
     have ta0:=fun v w => ta_setting_setting v w
     go_wp2_with fail
     go_region_held3 (fun w' => w'.cell? ⟨fb,2,none⟩ = some (.slice (some ⟨B,vo,none⟩) (varsOf k).length (varsOf k).length) ∧ w'.cell? ⟨nb,1,none⟩ = some (.int .i64 (p : Int)) ∧ w'.cell? ⟨nb,2,none⟩ = some (.slice ca sn cc)) (first | exact (uh HS _ _ _ _ (uh HFIN _ (uh HB1)).choose_spec).2 | go_keep) (first | (go_at_call 88; refine (uh HVA).mono ?_; rintro e w1 ⟨rfl,HB1,⟨b0',b0z⟩,b1',b2',b3'⟩))
     go_wp2
     obtain ⟨stk2,h2⟩:=uh HFIN _ (uh HB1)
     have h3:=uh HN1 _ _ _ h2
     go_roundg (nodes.length - (q + 1))
     case measure =>
      have h8:=uh HLT
      have h9:=uh HG9
      omega
     case rel => exact ⟨q + 1,r',_,c + 1,_,stk2,uh HLT,rfl,by go_num,by rw [w64_one],h3⟩
   ·as_aux_lemma =>
     have ht:=stm_tail hsb
     unfold stmTail at ht
     rw [if_neg (by omega),if_pos k2,Bool.and_eq_true] at ht
     obtain ⟨p,hp⟩:=Int.eq_ofNat_of_zero_le (of_decide_eq_true ht.1).1
     have hpl : p < (fAt ks i).length:=by
      have h8:=(off_facts ks i k (uh HK) (uh HE).hp).1
      have h9:=(of_decide_eq_true ht.1).2
      omega
     rw [uh HXM] at hcv
     rw [hp] at hb
     have hlr : leafR ks k C s y = ((y.1,y.2.set p (valF (varsOf k) y.1 y.2 s.code)),1):=by
      unfold leafR
      rw [if_neg (by omega),if_pos k2,hp,Int.toNat_natCast]
     rw [hlr] at HN1
     simp only at e1
     subst e1
     have hcar:=(uh HA).car.below (w2:=wr.drew) (Below.refl _ _).drew
     obtain ⟨hva,hq32⟩:=car_value (uh HK) (uh HE).hp (uh HE).old (uh HP) hcar (uh HA).sok s.code cv hcv ht.2
     obtain ⟨ca,cc,rfl⟩:=hcv.shape
     have HNB:=hide hb
     have HPL:=hide hpl
     have HS : Hid (∀ L2 stk2 w2 x2,CarIn W w w2 base fb pb B L L2 sv vv pv stk stk2 so vo rest sa pa (fAt ks i).length (varsOf k).length x2 → (w2.cell? ⟨B,so + p,none⟩ = some (.int .i32 (L2.getD (so + p) 0)) ∧ w2.frozen? ⟨B,so + p,none⟩ = false) ∧ w2.cell? ⟨fb,1,none⟩ = some (.slice (some ⟨B,so,none⟩) (fAt ks i).length (fAt ks i).length) ∧ w2.cell? ⟨nb,1,none⟩ = some (.int .i64 (p : Int)) ∧ w2.cell? ⟨nb,2,none⟩ = some (.slice ca s.code.length cc)):=fun L2 stk2 w2 x2 h2 => by
      have g1:=h2.geo.vl
      have g2:=h2.geo.sl
      have g3:=h2.vl
      have g4:=h2.sl
      have g5:=uh HPL
      have hn2:=(uh HNB).below h2.dyn.old (uh HNB).lt
      refine ⟨⟨row_cell h2.dyn.row _ (by omega),h2.dyn.row.free _⟩,?_,hn2.cell (i:=1) rfl,hn2.cell (i:=2) rfl⟩
      have h9:=h2.dyn.fr.cell (i:=1) (v:=sv) rfl
      rw [h2.geo.sv,h2.geo.sa (by omega),h2.sl] at h9
      exact h9
     have HVA : Hid (Calls Tryz.prog 88 #[.pointer (some ⟨fb,0,none⟩),.slice ca s.code.length cc] wr.drew fun e w' => e = .returned (.int .i32 (valF (varsOf k) y.1 y.2 s.code)) ∧ Hid (∃ stk2,CarIn W w w' base fb pb B L L1 sv vv pv stk stk2 so vo rest sa pa (fAt ks i).length (varsOf k).length y) ∧ (w'.cell? ⟨B,so + p,none⟩ = some (.int .i32 (L1.getD (so + p) 0)) ∧ w'.frozen? ⟨B,so + p,none⟩ = false) ∧ w'.cell? ⟨fb,1,none⟩ = some (.slice (some ⟨B,so,none⟩) (fAt ks i).length (fAt ks i).length) ∧ w'.cell? ⟨nb,1,none⟩ = some (.int .i64 (p : Int)) ∧ w'.cell? ⟨nb,2,none⟩ = some (.slice ca s.code.length cc)):=by
      refine hide (hva.mono ?_)
      rintro e w' ⟨rfl,stk2,hD2,hb2,hm2⟩
      have h2:=hcar.val hD2 hb2 hm2
      exact ⟨rfl,⟨stk2,h2⟩,uh HS _ _ _ _ h2⟩
     have HFIN : Hid (∀ w1,(∃ stk2,CarIn W w w1 base fb pb B L L1 sv vv pv stk stk2 so vo rest sa pa (fAt ks i).length (varsOf k).length y) → ∃ stk2,CarIn W w (w1.setCell ⟨B,so + p,none⟩ (.int .i32 (valF (varsOf k) y.1 y.2 s.code))) base fb pb B L (L1.set (so + p) (valF (varsOf k) y.1 y.2 s.code)) sv vv pv stk stk2 so vo rest sa pa (fAt ks i).length (varsOf k).length (y.1,y.2.set p (valF (varsOf k) y.1 y.2 s.code))):=fun w1 ⟨stk2,h2⟩ => ⟨stk2,h2.setS p (by have h8:=uh HPL; have h9:=h2.sl; omega) _ hq32⟩
     have s0:=uh HS _ _ _ _ (uh HA).car
     obtain ⟨_,s1,s2,s3⟩:=s0
     have hpI : (p : Int) < ((fAt ks i).length : Int):=by omega
     have hln : (fAt ks i).length ≤ 1000000:=by
      have g1:=hcar.geo.vl
      have g2:=hcar.geo.sl
      have g3:=hcar.vl
      have g4:=hcar.sl
      have g5:=hcar.geo.ln
      omega
     generalize valF (varsOf k) y.1 y.2 s.code = val at *
     clear ht hp hpl hb hcv hlr hcar hva hq32 hrest hsb hwf HNB HPL HIH HCALL
     generalize s.code.length = sn at *
     generalize L1.getD (so + p) 0 = old at *
     have ta0:=fun v w => ta_saving_setting v w
     have ta1:=fun v w => ta_saving_saving v w
     go_wp2_with fail
     go_region_held3 (fun w' => w'.cell? ⟨fb,1,none⟩ = some (.slice (some ⟨B,so,none⟩) (fAt ks i).length (fAt ks i).length) ∧ w'.cell? ⟨nb,1,none⟩ = some (.int .i64 (p : Int)) ∧ w'.cell? ⟨nb,2,none⟩ = some (.slice ca sn cc)) (first | exact (uh HS _ _ _ _ (uh HFIN _ (uh HB1)).choose_spec).2 | go_keep) (first | (go_at_call 88; refine (uh HVA).mono ?_; rintro e w1 ⟨rfl,HB1,⟨b0',b0z⟩,b1',b2',b3'⟩))
     go_wp2
     obtain ⟨stk2,h2⟩:=uh HFIN _ (uh HB1)
     have h3:=uh HN1 _ _ _ h2
     go_roundg (nodes.length - (q + 1))
     case measure =>
      have h8:=uh HLT
      have h9:=uh HG9
      omega
     case rel => exact ⟨q + 1,r',_,c + 1,_,stk2,uh HLT,rfl,by go_num,by rw [w64_one],h3⟩
   ·as_aux_lemma =>
     have hl3 : LeafAt X (fun _ => True) W (nt,nb) s:=Or.inr (Or.inr hleaf)
     obtain ⟨k3,e1,_⟩:=hleaf
     simp only at e1
     subst e1
     obtain ⟨VS9,hVS9⟩ : ∃ z,z = leafR ks k C s y:=⟨_,rfl⟩
     have HCA : Hid (∀ w1,Below wr.heap.size wr w1 → Calls Tryz.prog 89 #[.pointer (some ⟨fb,0,none⟩),.pointer (some ⟨nb,0,none⟩)] w1 fun e w' => e = .returned (.int .i64 (IntKind.i64.wrap (VS9.2 - 1))) ∧ Hid (∃ L2 stk2,CarIn W w w' base fb pb B L L2 sv vv pv stk stk2 so vo rest sa pa (fAt ks i).length (varsOf k).length VS9.1)):=fun w1 hb1 => by
      have hcar:=(uh HA).car.below hb1
      rw [hVS9]
      refine (uh HCALL w1 base fb pb mb B L1 sv vv pv stk1 so vo rest sa pa y X s nb hcar.dyn hcar.geo (uh HP) (uh HA).sok (uh HROOM) (uh HXK) (uh HXM) (uh HINS) hl3 hsb).mono ?_
      rintro e w' ⟨rfl,L2,stk2,h2⟩
      exact ⟨rfl,L2,stk2,hcar.go h2⟩
     rw [← hVS9] at HN1
     clear hVS9 hl3 hsb hwf hrest HCALL HIH k3 HA
     have ta0:=fun v w => ta_calling_setting v w
     have ta1:=fun v w => ta_calling_saving v w
     have ta2:=fun v w => ta_calling_calling v w
     go_wp2_with fail
     refine (uh HCA wr (Below.refl _ _)).mono ?_
     rintro e w1 ⟨rfl,HB1⟩
     go_wp2
     obtain ⟨L2,stk2,h2⟩:=uh HB1
     have h3:=uh HN1 _ _ _ h2
     go_roundg (nodes.length - (q + 1))
     case measure =>
      have h8:=uh HLT
      have h9:=uh HG9
      omega
     case rel => exact ⟨q + 1,r',_,c + VS9.2,L2,stk2,uh HLT,rfl,by go_num,by first | rw [w64_call] | rw [wrap_call] | rw [w64_call2],h3⟩
  | br s a el b en r' =>
   obtain ⟨x',ns',fv,gv,na,nb2,h1,_,e1,hb,⟨hfv,_⟩,hna,⟨hgv,_⟩,hnb,hrest⟩:=hat
   simp only [List.cons.injEq] at h1
   obtain ⟨rfl,rfl⟩:=h1
   simp only at e1 hb
   subst e1
   have hsb:=(uh HA).stm s (by simp [PL.flat])
   have hwf:=(uh HA).wf
   have ht:=stm_tail hsb
   unfold stmTail at ht
   rw [if_neg (by have:=hwf.1; omega),if_neg (by have:=hwf.1; omega),if_pos hwf.1.1] at ht
   obtain ⟨p,hp,hpl⟩:=in_place ht
   rw [uh HXK,hp] at hb
   have HNB:=hide hb
   have hcar:=(uh HA).car
   have n1:=(hb.below hcar.dyn.old hb.lt).cell (i:=1) (v:=.int .i64 (p : Int)) rfl
   have f2 : wr.cell? ⟨fb,2,none⟩ = some (.slice (some ⟨B,vo,none⟩) (varsOf k).length (varsOf k).length):=by
    have h9:=hcar.dyn.fr.cell (i:=2) (v:=vv) rfl
    rw [hcar.geo.vv,hcar.vl] at h9
    exact h9
   have bp : wr.cell? ⟨B,vo + p,none⟩ = some (.int .i32 (y.1.getD p 0)):=by
    have g1:=hcar.geo.vl
    have g3:=hcar.vl
    rw [row_cell hcar.dyn.row _ (by omega),hcar.geo.vs p (by omega)]
   have hpI : (p : Int) < ((varsOf k).length : Int):=by omega
   have hln : (varsOf k).length ≤ 1000000:=by
    have g1:=hcar.geo.vl
    have g3:=hcar.vl
    have g5:=hcar.geo.ln
    omega
   clear hcar hb ht hpl
   by_cases hz : y.1.getD p 0 = 0
   ·as_aux_lemma =>
     have hy : runR ks k C (.br s a el b en r') y = ((runR ks k C r' (runR ks k C b y).1).1,1 + (runR ks k C b y).2 + (runR ks k C r' (runR ks k C b y).1).2):=by
      simp only [runR]
      rw [hp,Int.toNat_natCast,if_neg (fun h => h hz)]
     obtain ⟨VS9,hVS9⟩ : ∃ z,z = runR ks k C b y:=⟨_,rfl⟩
     have HN1 : Hid (∀ L2 stk2 w2,CarIn W w w2 base fb pb B L L2 sv vv pv stk stk2 so vo rest sa pa (fAt ks i).length (varsOf k).length VS9.1 → CarAt W w w2 ks i k C t x X nodes base fb pb B L sv vv pv stk so vo rest sa pa (q + 1) r' VS9.1 (c + (1 + VS9.2)) L2 stk2):=fun L2 stk2 w2 h2 => by
      have h9:=uh HA
      have hfl:=h9.fl
      simp only [PL.flat,List.length_cons,List.length_append] at hfl
      refine ⟨hrest,by omega,hwf.2.2.2,fun s' h' => h9.stm s' (by simp [PL.flat,h']),?_,?_,?_,h2⟩
      ·rw [h9.r1,hy,hVS9]
      ·rw [h9.r2,hy,hVS9]
       simp only
       omega
      ·rw [hVS9]
       exact run_sok ks i k (uh HK) (uh HE).hp C (uh HW9) b (fun s' h' => h9.stm s' (by simp [PL.flat,h'])) hwf.2.2.1 y h9.sok
     have HCA : Hid (∀ w1,Below wr.heap.size wr w1 → Calls Tryz.prog 64 #[.pointer (some ⟨fb,0,none⟩),gv] w1 fun e w' => e = .returned (.int .i64 (IntKind.i64.wrap VS9.2)) ∧ Hid (∃ L2 stk2,CarIn W w w' base fb pb B L L2 sv vv pv stk stk2 so vo rest sa pa (fAt ks i).length (varsOf k).length VS9.1) ∧ w'.cell? ⟨nb,3,none⟩ = some gv):=fun w1 hb1 => by
      have h9:=uh HA
      have hcar:=h9.car.below hb1
      have hfl:=h9.fl
      simp only [PL.flat,List.length_cons,List.length_append] at hfl
      rw [hVS9]
      refine (uh HIH b (by omega) w1 base fb pb mb B L1 sv vv pv stk1 so vo rest sa pa y X nb2 gv hcar.dyn hcar.geo (uh HP) h9.sok (uh HROOM) (uh HXK) (uh HXM) (uh HINS) hgv hnb (fun s' h' => h9.stm s' (by simp [PL.flat,h'])) hwf.2.2.1).mono ?_
      rintro e w' ⟨rfl,L2,stk2,h2⟩
      have h3:=hcar.go h2
      exact ⟨rfl,⟨L2,stk2,h3⟩,((uh HNB).below h3.dyn.old (uh HNB).lt).cell (i:=3) rfl⟩
     obtain ⟨fa9,fc9,hfe⟩:=hgv.shape
     obtain ⟨fn9,hfn⟩ : ∃ z,z = nb2.length:=⟨_,rfl⟩
     rw [← hfn] at hfe
     subst hfe
     have q2:=((uh HNB).below (uh HA).car.dyn.old (uh HNB).lt).cell (i:=3) (v:=.slice fa9 fn9 fc9) rfl
     rw [hz] at bp
     clear hz
     clear hVS9 hy hsb hwf hrest HCALL HIH HA hfv hgv hna hnb hfn hp HNB
     have ta0:=fun v w => ta_branching_setting v w
     have ta1:=fun v w => ta_branching_saving v w
     have ta2:=fun v w => ta_branching_calling v w
     have ta3:=fun v w => ta_branching_branching v w
     go_wp2_with fail
     go_quiet ((fail))
     go_wp2_with fail
     refine (uh HCA _ (below_dn wr nq)).mono ?_
     rintro e w1 ⟨rfl,HB1,_⟩
     go_wp2
     obtain ⟨L2,stk2,h2⟩:=uh HB1
     have h3:=uh HN1 _ _ _ h2
     go_roundg (nodes.length - (q + 1))
     case measure =>
      have h8:=uh HLT
      have h9:=uh HG9
      omega
     case rel => exact ⟨q + 1,r',_,c + (1 + VS9.2),L2,stk2,uh HLT,rfl,by go_num,by rw [w64_br],h3⟩
   ·as_aux_lemma =>
     have hy : runR ks k C (.br s a el b en r') y = ((runR ks k C r' (runR ks k C a y).1).1,1 + (runR ks k C a y).2 + (runR ks k C r' (runR ks k C a y).1).2):=by
      simp only [runR]
      rw [hp,Int.toNat_natCast,if_pos hz]
     obtain ⟨VS9,hVS9⟩ : ∃ z,z = runR ks k C a y:=⟨_,rfl⟩
     have HN1 : Hid (∀ L2 stk2 w2,CarIn W w w2 base fb pb B L L2 sv vv pv stk stk2 so vo rest sa pa (fAt ks i).length (varsOf k).length VS9.1 → CarAt W w w2 ks i k C t x X nodes base fb pb B L sv vv pv stk so vo rest sa pa (q + 1) r' VS9.1 (c + (1 + VS9.2)) L2 stk2):=fun L2 stk2 w2 h2 => by
      have h9:=uh HA
      have hfl:=h9.fl
      simp only [PL.flat,List.length_cons,List.length_append] at hfl
      refine ⟨hrest,by omega,hwf.2.2.2,fun s' h' => h9.stm s' (by simp [PL.flat,h']),?_,?_,?_,h2⟩
      ·rw [h9.r1,hy,hVS9]
      ·rw [h9.r2,hy,hVS9]
       simp only
       omega
      ·rw [hVS9]
       exact run_sok ks i k (uh HK) (uh HE).hp C (uh HW9) a (fun s' h' => h9.stm s' (by simp [PL.flat,h'])) hwf.2.1 y h9.sok
     have HCA : Hid (∀ w1,Below wr.heap.size wr w1 → Calls Tryz.prog 64 #[.pointer (some ⟨fb,0,none⟩),fv] w1 fun e w' => e = .returned (.int .i64 (IntKind.i64.wrap VS9.2)) ∧ Hid (∃ L2 stk2,CarIn W w w' base fb pb B L L2 sv vv pv stk stk2 so vo rest sa pa (fAt ks i).length (varsOf k).length VS9.1) ∧ w'.cell? ⟨nb,2,none⟩ = some fv):=fun w1 hb1 => by
      have h9:=uh HA
      have hcar:=h9.car.below hb1
      have hfl:=h9.fl
      simp only [PL.flat,List.length_cons,List.length_append] at hfl
      rw [hVS9]
      refine (uh HIH a (by omega) w1 base fb pb mb B L1 sv vv pv stk1 so vo rest sa pa y X na fv hcar.dyn hcar.geo (uh HP) h9.sok (uh HROOM) (uh HXK) (uh HXM) (uh HINS) hfv hna (fun s' h' => h9.stm s' (by simp [PL.flat,h'])) hwf.2.1).mono ?_
      rintro e w' ⟨rfl,L2,stk2,h2⟩
      have h3:=hcar.go h2
      exact ⟨rfl,⟨L2,stk2,h3⟩,((uh HNB).below h3.dyn.old (uh HNB).lt).cell (i:=2) rfl⟩
     obtain ⟨fa9,fc9,hfe⟩:=hfv.shape
     obtain ⟨fn9,hfn⟩ : ∃ z,z = na.length:=⟨_,rfl⟩
     rw [← hfn] at hfe
     subst hfe
     have q2:=((uh HNB).below (uh HA).car.dyn.old (uh HNB).lt).cell (i:=2) (v:=.slice fa9 fn9 fc9) rfl
     obtain ⟨zv,hzv⟩ : ∃ z,z = y.1.getD p 0:=⟨_,rfl⟩
     rw [← hzv] at hz bp
     have hzb : (zv == 0) = false:=by rw [beq_eq_false_iff_ne]; exact hz
     clear hzv hz
     clear hVS9 hy hsb hwf hrest HCALL HIH HA hfv hgv hna hnb hfn hp HNB
     have ta0:=fun v w => ta_branching_setting v w
     have ta1:=fun v w => ta_branching_saving v w
     have ta2:=fun v w => ta_branching_calling v w
     have ta3:=fun v w => ta_branching_branching v w
     go_wp2_with fail
     go_quiet ((fail))
     go_wp2_with fail
     refine (uh HCA _ (below_dn wr nq)).mono ?_
     rintro e w1 ⟨rfl,HB1,_⟩
     go_wp2
     obtain ⟨L2,stk2,h2⟩:=uh HB1
     have h3:=uh HN1 _ _ _ h2
     go_roundg (nodes.length - (q + 1))
     case measure =>
      have h8:=uh HLT
      have h9:=uh HG9
      omega
     case rel => exact ⟨q + 1,r',_,c + (1 + VS9.2),L2,stk2,uh HLT,rfl,by go_num,by rw [w64_br],h3⟩
end Go.Proofs.YtjjldnkhadakcaaGreat
