import Derived.Test.YtfioeoihociilaaGreatCS4
import Derived.Test.YtfioeoihociilaaGreatWI3
import Derived.LaidEqlPtr
namespace Go.Proofs.YtfioeoihociilaaGreat
open Go.RowKit
set_option linter.unusedSimpArgs false
set_option linter.unusedVariables false
structure Ck (W w : World) (ns : List DNode) (i : Nat) (x : DNode) (b o cb EB : Nat) (G : List Int) (sb vb : Nat) (ov : Value) (D : List Nat) (C L : List DCond → Option Nat) (N : Nat) : Prop where
 sc : Sc W w (.pointer (some ⟨b,o + i * 5,none⟩)) .nilFunc (allV x) G sb vb ov D C L N
 blk : BlkAt w cb 50 #[.pointer (some ⟨sb,0,none⟩),.map (some EB)]
 lib : LibAt W EB b o ns i
 node : At 5 RNode W b (o + i * 5) x
 clo : W.heap.size ≤ cb
theorem Ck.below {W w w' : World} {ns : List DNode} {i : Nat} {x : DNode} {b o cb EB : Nat} {G : List Int} {sb vb : Nat} {ov : Value} {D : List Nat} {C L : List DCond → Option Nat} {N : Nat} (h : Ck W w ns i x b o cb EB G sb vb ov D C L N) (hb : Below w.heap.size w w') : Ck W w' ns i x b o cb EB G sb vb ov D C L N:=⟨h.sc.below hb,h.blk.below hb h.blk.lt,h.lib,h.node,h.clo⟩
theorem flat_ptr (D : List Nat) : D.flatMap elDecl.f = D.map ptrN:=by
 show D.flatMap (fun t => [ptrN t]) = _
 induction D with
 | nil => rfl
 | cons a r ih => rw [List.flatMap_cons,List.map_cons,ih]; rfl
theorem OwnV.cellD {w : World} {base : Nat} {v : Value} {D : List Nat} (h : OwnV elDecl w base v D) {g c n : Nat} (hv : v = .slice (some ⟨g,0,none⟩) n c) (p : Nat) (hp : p < D.length) : w.cell? ⟨g,p,none⟩ = some (ptrN (D.getD p 0)):=by
 have h':=World.ownsRow.cells h (g:=g) (by rw [hv]; rfl) p (ptrN (D.getD p 0)) (by
  rw [flat_ptr]
  rw [List.getElem?_map,List.getElem?_eq_getElem hp,List.getD_eq_getElem?_getD,List.getElem?_eq_getElem hp]
  rfl)
 rw [Addr.add_lit,Nat.zero_add] at h'
 exact h'
theorem neq_ptr_same {P : Program} (w : World) {tp te : TypeId} {j : TypeInfo} (a : Addr) (hp : P.underlying tp = some (.pointer te)) (hte : P.info? te = some j) : (binOp .neq tp (.pointer (some a)) (.pointer (some a))).run P w = .ok (.bool false) w:=by
 have h : ∀ d : Nat,(Op.equalIn (d + 1) tp (.pointer (some a)) (.pointer (some a))).run P w = .ok true w:=fun d => by
  simp [Op.equalIn,run_underlying hp,sizeOf,typeInfo,hte,run_sameAddr_same]
 simp only [binOp]
 simp [Op.equal,Op.maxDepth,h 9999]
theorem neq_ptr_other {P : Program} (w : World) {tp te : TypeId} {j : TypeInfo} {a b : Addr} {ca cb : Array Value} {ta tb : TypeId} (hp : P.underlying tp = some (.pointer te)) (hte : P.info? te = some j) (hsz : j.size ≠ 0) (hne : a ≠ b) (ha : w.heap[a.block]? = some (.cells ca ta (0,0))) (hb : w.heap[b.block]? = some (.cells cb tb (0,0))) : (binOp .neq tp (.pointer (some a)) (.pointer (some b))).run P w = .ok (.bool true) w:=by
 have h : ∀ d : Nat,(Op.equalIn (d + 1) tp (.pointer (some a)) (.pointer (some b))).run P w = .ok false w:=fun d => by
  simp [Op.equalIn,run_underlying hp,sizeOf,typeInfo,hte,hsz,run_sameAddr_other w hne ha hb]
 simp only [binOp]
 simp [Op.equal,Op.maxDepth,h 9999]
theorem info_decl : ∃ j,Tryz.prog.info? 122 = some j ∧ j.size ≠ 0:=by
 have h : (Tryz.prog.info? 122).map (fun i => i.size) = some 6:=by kernel_rfl
 obtain ⟨j,h1,h2⟩:=Option.map_eq_some_iff.1 h
 exact ⟨j,h1,by omega⟩
theorem info_ctx : ∃ j,Tryz.prog.info? 91 = some j ∧ j.size ≠ 0:=by
 have h : (Tryz.prog.info? 91).map (fun i => i.size) = some 7:=by kernel_rfl
 obtain ⟨j,h1,h2⟩:=Option.map_eq_some_iff.1 h
 exact ⟨j,h1,by omega⟩
theorem decl_same (w : World) (d : Nat) : (binOp .neq 118 (.pointer (some ⟨d,0,none⟩)) (.pointer (some ⟨d,0,none⟩))).run Tryz.prog w = .ok (.bool false) w:=by
 obtain ⟨j,h1,_⟩:=info_decl
 exact neq_ptr_same w _ Tryz.underlying118 h1
theorem decl_other (w : World) {d e : Nat} (hne : d ≠ e) {T U : TypeId} {cs cs' : Array Value} (hd : BlkAt w d T cs) (he : BlkAt w e U cs') : (binOp .neq 118 (.pointer (some ⟨d,0,none⟩)) (.pointer (some ⟨e,0,none⟩))).run Tryz.prog w = .ok (.bool true) w:=by
 obtain ⟨j,h1,h2⟩:=info_decl
 exact neq_ptr_other w Tryz.underlying118 h1 h2 (fun e9 => hne (congrArg Addr.block e9)) hd he
theorem ctx_same (w : World) (d : Nat) : (binOp .neq 88 (.pointer (some ⟨d,0,none⟩)) (.pointer (some ⟨d,0,none⟩))).run Tryz.prog w = .ok (.bool false) w:=by
 obtain ⟨j,h1,_⟩:=info_ctx
 exact neq_ptr_same w _ Tryz.underlying88 h1
theorem ctx_other (w : World) {d e : Nat} (hne : d ≠ e) {T U : TypeId} {cs cs' : Array Value} (hd : BlkAt w d T cs) (he : BlkAt w e U cs') : (binOp .neq 88 (.pointer (some ⟨d,0,none⟩)) (.pointer (some ⟨e,0,none⟩))).run Tryz.prog w = .ok (.bool true) w:=by
 obtain ⟨j,h1,h2⟩:=info_ctx
 exact neq_ptr_other w Tryz.underlying88 h1 h2 (fun e9 => hne (congrArg Addr.block e9)) hd he
theorem look_self (vs : List DVar) (k : Nat) (hk : k < vs.length) : lookN vs vs[k].name ≤ k:=by
 unfold lookN
 rcases Nat.lt_or_ge k (List.findIdx (fun v => v.name.toList == vs[k].name.toList) vs) with h | h
 ·have h1:=List.not_of_lt_findIdx h
  simp at h1
 ·exact h
theorem dup_look (vs : List DVar) (k : Nat) (hk : k < vs.length) : dupB vs k = decide (lookN vs vs[k].name < k):=by
 rw [dup_at vs k hk]
 have h:=look_self vs k hk
 unfold lookI
 rw [if_pos (by omega)]
 simp only [decide_eq_decide]
 omega
def ChPost (r : Int × Int) (w : World) (e : Ending) (w' : World) : Prop:=e = .returned (.tuple #[.int .i64 r.1,.int .i64 r.2]) ∧ Below w.heap.size w w'
def namesF (ns : List DNode) (i : Nat) (x : DNode) : Int × Int:=if 0 ≤ findI ns i x.name then (2,0) else match firstTo (dupB (allV x)) (allV x).length with
 | some k => (2,(k : Int) + 1)
 | none => (0,0)
set_option maxRecDepth 20000 in
set_option maxHeartbeats 8000000 in
theorem names_ok (W w : World) (ns : List DNode) (i : Nat) (x : DNode) (b o cb EB : Nat) (G : List Int) (sb vb : Nat) (ov : Value) (D : List Nat) (C L : List DCond → Option Nat) (N : Nat) (h : Ck W w ns i x b o cb EB G sb vb ov D C L N) (hvl : (allV x).length ≤ 10000) (hnm : ∀ v,v ∈ allV x → v.name.size ≤ maxLen) :
  Calls Tryz.prog 34 #[.pointer (some ⟨cb,0,none⟩)] w (ChPost (namesF ns i x) w):=by
 have HC:=hide h
 have c0:=h.blk.cell (i:=0) (v:=.pointer (some ⟨sb,0,none⟩)) rfl
 have c1:=h.blk.cell (i:=1) (v:=.map (some EB)) rfl
 have s0:=h.sc.sblk.cell (i:=0) (v:=.pointer (some ⟨b,o + i * 5,none⟩)) rfl
 have s1:=h.sc.sblk.cell (i:=1) (v:=ov) rfl
 have s2:=h.sc.sblk.cell (i:=2) (v:=.map (some vb)) rfl
 obtain ⟨oa,oc,hov⟩:=h.sc.ord.slice
 have hdl:=h.sc.dlen
 rw [hdl] at hov
 subst hov
 obtain ⟨hbl,cs,hl,hc,v1,v2,v3,v4,rfl,hs,_⟩:=h.node
 have k0:=(h.sc.old.cell (p:=⟨b,_,none⟩) hbl).trans (hc 0 (by simp))
 simp only [List.getElem_cons_zero,Nat.add_zero] at k0
 have hns : x.name.size ≤ maxLen:=by unfold Len at hs; unfold maxLen; omega
 obtain ⟨f,hM,hM0,hM1⟩:=h.lib
 have hMw : ∀ nq,MapF Tryz.prog 9 (.pointer none) (w.drewN nq) EB i f:=fun nq => hM.block ((below_dN (Below.refl w.heap.size w) nq).block EB (Nat.lt_of_lt_of_le hM.lt h.sc.old.size) |>.trans (h.sc.old.block EB hM.lt))
 have hlk : ∀ nq,(Instr.lookup 40 (.map (some EB)) (.string x.name) false).run Tryz.prog (w.drewN nq) = .ok (f x.name) (w.drewN nq):=fun nq => (hMw nq).look (t:=40) Tryz.underlying9 Tryz.underlying40 (zeroMem _) hns
 obtain ⟨PO,hPO⟩ : ∃ PO : Ending → World → Prop,PO = ChPost (namesF ns i x) w:=⟨_,rfl⟩
 rw [← hPO]
 have HPO:=hide hPO
 by_cases hf : 0 ≤ findI ns i x.name
 ·have hfb:=find_bd ns i x.name
  obtain ⟨q,hq⟩:=Int.eq_ofNat_of_zero_le hf
  obtain ⟨m,g1,_⟩:=hM1 _ q hq
  rw [g1] at hlk
  have HFIN : Hid (∀ w',Below w.heap.size w w' → PO (.returned (.tuple #[.int .i64 2,.int .i64 0])) w'):=fun w' hb => by
   rw [uh HPO]
   unfold namesF
   rw [if_pos hf]
   exact ⟨rfl,hb⟩
  clear hPO h HC hc hl hs hM hM0 hM1 hMw hf hfb hq g1 hdl hns s1 s2
  go_enter Tryz.func34,Tryz.ntmps34
  go_wp2_with fail
  go_quiet ((fail))
  go_wp2
  exact uh HFIN _ (below_dN (Below.refl _ _) _)
 ·rw [hM0 _ (by omega)] at hlk
  have HCEL : Hid (∀ k (hk : k < (allV x).length),∃ g,oa = some ⟨g,0,none⟩ ∧ ∀ w',Below w.heap.size w w' → w'.cell? ⟨g,k,none⟩ = some (.pointer (some ⟨D.getD k 0,0,none⟩)) ∧ w'.cell? ⟨D.getD k 0,0,none⟩ = some (.string (allV x)[k].name)):=fun k hk => by
   rcases h.sc.ord.shape with ⟨h1,h2⟩ | ⟨g,cap,h1,_,h2,_⟩
   ·rw [h2] at hdl
    simp at hdl
    omega
   ·simp only [Value.slice.injEq] at h1
    refine ⟨g,h1.1,fun w' hb => ?_⟩
    have h3:=h.sc.ord.cellD (g:=g) (c:=oc) (n:=(allV x).length) (by rw [h1.1]) k (by rw [hdl]; exact hk)
    obtain ⟨cv,p,h4,_⟩:=h.sc.decl k hk
    have h5:=h4.cell (i:=0) (v:=.string (allV x)[k].name) rfl
    exact ⟨(hb.cell (World.block_lt_of_cell? w _ h3)).trans h3,(hb.cell (World.block_lt_of_cell? w _ h5)).trans h5⟩
  have HLK : Hid (∀ k (hk : k < (allV x).length),∀ w',Below w.heap.size w w' → (Instr.lookup 84 (.map (some vb)) (.string (allV x)[k].name) false).run Tryz.prog w' = .ok (varF (allV x) D (allV x)[k].name) w'):=fun k hk w' hb => by
   obtain ⟨n,f',h1,h2,h3⟩:=h.sc.vars
   have h9:=(h2.below hb).look (t:=84) Tryz.underlying9 Tryz.underlying84 (by kernel_rfl) (hnm _ (List.getElem_mem hk))
   rw [h3] at h9
   exact h9
  have HINJ:=hide h.sc.inj
  have HBLK : Hid (∀ k,k < (allV x).length → ∃ cs,BlkAt w (D.getD k 0) 122 cs):=fun k hk => by
   obtain ⟨cv,p,h4,_⟩:=h.sc.decl k hk
   exact ⟨_,h4⟩
  have HNF : Hid (¬ 0 ≤ findI ns i x.name):=hide (by omega)
  have HCL : Hid (∀ w',Below w.heap.size w w' → w'.cell? ⟨cb,0,none⟩ = some (.pointer (some ⟨sb,0,none⟩)) ∧ w'.cell? ⟨sb,2,none⟩ = some (.map (some vb))):=fun w' hb => ⟨(hb.cell (World.block_lt_of_cell? w _ c0)).trans c0,(hb.cell (World.block_lt_of_cell? w _ s2)).trans s2⟩
  clear hPO h HC hc hl hs hM hM0 hM1 hMw hf hdl hns s2
  go_enter Tryz.func34,Tryz.ntmps34
  go_wp2_with fail
  go_quiet ((fail))
  go_wp2
  go_loopg [30] (allV x).length (fun gm iv wr => ∃ k : Nat,k ≤ (allV x).length ∧ gm = (allV x).length - k ∧ iv = .int .i64 k ∧ Below w.heap.size w wr ∧ ∀ j,j < k → dupB (allV x) j = false)
  case atStart => exact ⟨0,Nat.zero_le _,by omega,rfl,below_dN (Below.refl _ _) _,fun j hj => absurd hj (Nat.not_lt_zero _)⟩
  case round =>
   obtain ⟨k,hk,hg,rfl,hb,hno⟩:=hrel
   rename World => wr
   have HG:=hide hg
   have HB:=hide hb
   have HNO:=hide hno
   clear c0 c1 s0 s1 hlk hg hno
   by_cases hlt : k < (allV x).length
   case neg =>
    have hke : k = (allV x).length:=by omega
    have HFIN : Hid (PO (.returned (.tuple #[.int .i64 0,.int .i64 0])) wr):=by
     rw [uh HPO]
     unfold namesF
     rw [if_neg (by have:=uh HNF; omega),first_none (fun j hj => uh HNO j (by omega))]
     exact hide ⟨rfl,uh HB⟩
    have hkI : ¬ (k : Int) < ((allV x).length : Int):=by omega
    clear hke hb
    go_wp2
    first
     | exact uh HFIN
     | (refine bodyPost_ret (v:=.tuple #[.int .i64 0,.int .i64 0]) rfl rfl ?_; exact uh HFIN)
   obtain ⟨g,hoe,hcell⟩:=uh HCEL k hlt
   subst hoe
   obtain ⟨d0,d1⟩:=hcell wr hb
   obtain ⟨c0,s2⟩:=uh HCL wr hb
   have hls:=look_self (allV x) k hlt
   have hdl9:=dup_look (allV x) k hlt
   have hlk0:=uh HLK k hlt
   have HLT:=hide hlt
   have hkI : (k : Int) < ((allV x).length : Int):=by omega
   have hwr : IntKind.i64.wrap ((k : Int) + 1) = (k : Int) + 1:=by
    rw [IntKind.wrap_i64]
    omega
   generalize (allV x)[k].name = nm at hls hdl9 hlk0 d1
   obtain ⟨ln,hln⟩ : ∃ z,z = lookN (allV x) nm:=⟨_,rfl⟩
   rw [← hln] at hls hdl9
   have hlk : ∀ nq,(Instr.lookup 84 (.map (some vb)) (.string nm) false).run Tryz.prog (wr.drewN nq) = .ok (.pointer (some ⟨D.getD ln 0,0,none⟩)) (wr.drewN nq):=fun nq => by
    have h9:=hlk0 (wr.drewN nq) (below_dN hb nq)
    unfold varF at h9
    rw [← hln,if_pos (by omega)] at h9
    exact h9
   clear hlk0 hln
   by_cases he : ln = k
   ·have HND : Hid (∀ j,j < k + 1 → dupB (allV x) j = false):=fun j hj => by
     by_cases c : j < k
     ·exact uh HNO j c
     ·have e : j = k:=by omega
      rw [e,hdl9,he]
      simp
    rw [he] at hlk
    generalize D.getD k 0 = dk at *
    have hpn : ∀ nq,(binOp .neq 118 (.pointer (some ⟨dk,0,none⟩)) (.pointer (some ⟨dk,0,none⟩))).run Tryz.prog (wr.drewN nq) = .ok (.bool false) (wr.drewN nq):=fun nq => decl_same _ _
    clear hcell he hls hb HCEL HLK hdl9 hlt HBLK
    go_wp2_with fail
    go_quiet ((fail))
    go_wp2
    go_roundg ((allV x).length - (k + 1))
    case measure =>
     have h8:=uh HLT
     have h9:=uh HG
     omega
    case rel => exact ⟨k + 1,uh HLT,rfl,by go_num,below_dN (uh HB) _,uh HND⟩
   ·have hdup : dupB (allV x) k = true:=by
     rw [hdl9]
     exact decide_eq_true (by omega)
    have hne : D.getD ln 0 ≠ D.getD k 0:=fun e => he (uh HINJ _ _ (by omega) hlt e)
    have HFIN : Hid (∀ w',Below w.heap.size w w' → PO (.returned (.tuple #[.int .i64 2,.int .i64 ((k : Int) + 1)])) w'):=fun w' hb' => by
     rw [uh HPO]
     unfold namesF
     rw [if_neg (by have:=uh HNF; omega),first_hit hlt hdup (uh HNO)]
     exact ⟨rfl,hb'⟩
    have hpn : ∀ nq,(binOp .neq 118 (.pointer (some ⟨D.getD ln 0,0,none⟩)) (.pointer (some ⟨D.getD k 0,0,none⟩))).run Tryz.prog (wr.drewN nq) = .ok (.bool true) (wr.drewN nq):=fun nq => by
     obtain ⟨c1,g1⟩:=uh HBLK ln (by omega)
     obtain ⟨c2,g2⟩:=uh HBLK k hlt
     have hb9:=below_dN hb nq
     exact decl_other _ hne (g1.below hb9 g1.lt) (g2.below hb9 g2.lt)
    generalize D.getD k 0 = dk at *
    generalize D.getD ln 0 = dl at *
    clear hcell he hls HCEL HLK hdup hb hdl9 hlt HBLK
    go_wp2_with fail
    go_quiet ((fail))
    go_wp2
    exact uh HFIN _ (below_dN (uh HB) _)
theorem condE_iff (a b : DCond) : condE a b = true ↔ a = b:=by
 unfold condE
 rw [Bool.and_eq_true,nm_eq,beq_iff_eq]
 constructor
 ·rintro ⟨h1,h2⟩
  cases a; cases b
  simp only at h1 h2
  rw [h1,h2]
 ·rintro rfl
  exact ⟨rfl,rfl⟩
theorem sameC_iff (xs ys : List DCond) : sameC xs ys = true ↔ xs = ys:=by
 unfold sameC
 rw [Bool.and_eq_true,decide_eq_true_iff]
 constructor
 ·rintro ⟨h1,h2⟩
  refine List.ext_getElem h1 (fun i hi hj => ?_)
  have h3:=List.all_eq_true.1 h2 (xs[i],ys[i]) (by
   rw [List.mem_iff_getElem]
   exact ⟨i,by rw [List.length_zip]; omega,by rw [List.getElem_zip]⟩)
  exact (condE_iff _ _).1 h3
 ·rintro rfl
  refine ⟨rfl,List.all_eq_true.2 (fun p hp => ?_)⟩
  obtain ⟨i,hi,e⟩:=List.mem_iff_getElem.1 hp
  rw [List.getElem_zip] at e
  rw [← e]
  exact (condE_iff _ _).2 rfl
theorem cond_no (vs : List DVar) (ks : List DCond) (j : Nat) (hj : j < ks.length) (hl : ¬ lookN vs ks[j].name < vs.length) : condBad vs ks j = true:=by
 rw [cond_at vs ks j hj]
 unfold lookI
 rw [if_neg hl]
 simp
theorem cond_yes (vs : List DVar) (ks : List DCond) (j : Nat) (hj : j < ks.length) (hl : lookN vs ks[j].name < vs.length) : condBad vs ks j = false ↔ (vs[lookN vs ks[j].name].type = 2 ∧ vs[lookN vs ks[j].name].clock = ks.take j):=by
 rw [cond_at vs ks j hj]
 unfold clkOf lookV lookI
 rw [if_pos hl,dif_pos hl,decide_eq_false (by omega),Bool.false_or,Bool.or_eq_false_iff,bne_eq_false_iff_eq,Bool.not_eq_false',sameC_iff]
def okClk (vs : List DVar) (ks : List DCond) : Bool:=!(firstTo (condBad vs ks) ks.length).isSome
theorem okClk_true {vs : List DVar} {ks : List DCond} (h : ∀ j,j < ks.length → condBad vs ks j = false) : okClk vs ks = true:=by
 unfold okClk
 rw [first_none h]
 rfl
theorem okClk_false {vs : List DVar} {ks : List DCond} {j : Nat} (hj : j < ks.length) (h : condBad vs ks j = true) : okClk vs ks = false:=by
 unfold okClk
 rw [first_some hj h]
 rfl
set_option maxRecDepth 20000 in
set_option maxHeartbeats 8000000 in
theorem isClock_ok (W w : World) (ns : List DNode) (i : Nat) (x : DNode) (b o cb EB : Nat) (G : List Int) (sb vb : Nat) (ov : Value) (D : List Nat) (C L : List DCond → Option Nat) (N : Nat) (h : Ck W w ns i x b o cb EB G sb vb ov D C L N) (ks : List DCond) (p0 : Nat) (hp0 : C ks = some p0) (hnm : ∀ c,c ∈ ks → c.name.size ≤ maxLen) :
  Calls Tryz.prog 63 #[.pointer (some ⟨cb,0,none⟩),.pointer (some ⟨p0,0,none⟩)] w (Ans (.bool (okClk (allV x) ks)) w):=by
 have HC:=hide h
 have HP0:=hide hp0
 have HNM:=hide hnm
 clear h hp0 hnm
 obtain ⟨PO,hPO⟩ : ∃ PO : Ending → World → Prop,PO = Ans (.bool (okClk (allV x) ks)) w:=⟨_,rfl⟩
 rw [← hPO]
 have HPO:=hide hPO
 clear hPO
 go_enter Tryz.func63,Tryz.ntmps63
 go_wp2
 go_loopg [1] ks.length (fun gm kv wr => ∃ m p : Nat,m ≤ ks.length ∧ gm = m ∧ kv = .pointer (some ⟨p,0,none⟩) ∧ C (ks.take m) = some p ∧ Below w.heap.size w wr ∧ ∀ j,m ≤ j → j < ks.length → condBad (allV x) ks j = false)
 case atStart => exact ⟨ks.length,p0,Nat.le_refl _,rfl,rfl,by rw [List.take_length]; exact uh HP0,Below.refl _ _,fun j h1 h2 => absurd h1 (by omega)⟩
 case round =>
  obtain ⟨m,p,hm,hg,rfl,hp,hb,hno⟩:=hrel
  rename World => wr
  have HG:=hide hg
  have HB:=hide hb
  have HNO:=hide hno
  have hck:=(uh HC).below hb
  obtain ⟨hbl,_⟩:=hck.sc.trie.blk _ p hp
  clear hg hno
  rcases Nat.eq_zero_or_pos m with hm0 | hm0
  ·subst hm0
   have q0 : wr.cell? ⟨p,0,none⟩ = some (.pointer none):=hbl.cell (i:=0) (by rw [List.take_zero]; rfl)
   have HFIN : Hid (PO (.returned (.bool true)) wr):=by
    rw [uh HPO,okClk_true (fun j hj => uh HNO j (Nat.zero_le _) hj)]
    exact hide ⟨rfl,uh HB⟩
   clear hck hbl hp hb
   go_wp2
   first
    | exact uh HFIN
    | (go_ret; exact uh HFIN)
  obtain ⟨m1,rfl⟩ : ∃ z,m = z + 1:=⟨m - 1,by omega⟩
  have hml : m1 < ks.length:=by omega
  have htk : ks.take (m1 + 1) = ks.take m1 ++ [ks[m1]]:=by
   rw [List.take_add_one,List.getElem?_eq_getElem hml,Option.toList_some]
  have hcn:=cond_no (allV x) ks m1 hml
  have hcy:=cond_yes (allV x) ks m1 hml
  have hmem:=uh HNM _ (List.getElem_mem hml)
  rw [htk] at hp hbl
  have HML:=hide hml
  have HBAD : Hid (condBad (allV x) ks m1 = true → ∀ w',Below w.heap.size w w' → PO (.returned (.bool false)) w'):=fun h9 w' hb9 => by
   rw [uh HPO,okClk_false hml h9]
   exact ⟨rfl,hb9⟩
  generalize ks[m1] = c at hp hbl htk hcn hcy hmem
  obtain ⟨q,M,hq,_⟩:=hck.sc.trie.up _ _ _ hp
  have hcells : ctxCells C L (ks.take m1 ++ [c]) = #[.pointer (some ⟨q,0,none⟩),.string c.name,.bool c.on,.int .i64 ((ks.take m1 ++ [c]).length : Int),.map (L (ks.take m1 ++ [c])),.int .i64 0,.slice none 0 0]:=by
   unfold ctxCells
   rw [last_snoc,bef_snoc,hq]
   rfl
  rw [hcells] at hbl
  have q0:=hbl.cell (i:=0) (v:=.pointer (some ⟨q,0,none⟩)) rfl
  have q1:=hbl.cell (i:=1) (v:=.string c.name) rfl
  have c0:=hck.blk.cell (i:=0) (v:=.pointer (some ⟨sb,0,none⟩)) rfl
  have s2:=hck.sc.sblk.cell (i:=2) (v:=.map (some vb)) rfl
  have hqb:=(hck.sc.trie.blk _ q hq).1
  obtain ⟨ln,hln⟩ : ∃ z,z = lookN (allV x) c.name:=⟨_,rfl⟩
  rw [← hln] at hcn
  have hlk : ∀ nq,(Instr.lookup 84 (.map (some vb)) (.string c.name) false).run Tryz.prog (wr.drewN nq) = .ok (if ln < (allV x).length then ptrN (D.getD ln 0) else .pointer none) (wr.drewN nq):=fun nq => by
   obtain ⟨n,f',h1,h2,h3⟩:=hck.sc.vars
   have h9:=(h2.below (below_dN (Below.refl _ wr) nq)).look (t:=84) Tryz.underlying9 Tryz.underlying84 (by kernel_rfl) hmem
   rw [h3,varF,← hln] at h9
   exact h9
  by_cases hl : ln < (allV x).length
  ·have hcy1:=hcy (by rw [← hln]; exact hl)
   obtain ⟨cv,p2,hdb,hp2,_⟩:=hck.sc.decl ln hl
   have hdt : condBad (allV x) ks m1 = false ↔ ((allV x)[ln].type = 2 ∧ (allV x)[ln].clock = ks.take m1):=by
    subst hln
    exact hcy1
   generalize (allV x)[ln] = dv at hdb hp2 hdt
   have d1:=hdb.cell (i:=1) (v:=.int .i64 dv.type) rfl
   have d3:=hdb.cell (i:=3) (v:=.pointer (some ⟨p2,0,none⟩)) rfl
   have hpb:=(hck.sc.trie.blk _ p2 hp2).1
   have hpq : p2 = q ↔ dv.clock = ks.take m1:=⟨fun e => hck.sc.trie.inj _ _ q (by rw [← e]; exact hp2) hq,fun e => by
    rw [e,hq] at hp2
    exact (Option.some.inj hp2).symm⟩
   have hlk2 : ∀ nq,(Instr.lookup 84 (.map (some vb)) (.string c.name) false).run Tryz.prog (wr.drewN nq) = .ok (.pointer (some ⟨D.getD ln 0,0,none⟩)) (wr.drewN nq):=fun nq => by
    have h9:=hlk nq
    rw [if_pos hl] at h9
    exact h9
   generalize D.getD ln 0 = dk at *
   generalize c.name = nm at *
   have HHL:=hide hl
   by_cases ht : dv.type = 2
   ·by_cases hpe : p2 = q
    ·have HNO2 : Hid (∀ j,m1 ≤ j → j < ks.length → condBad (allV x) ks j = false):=fun j h1 h2 => by
      by_cases e : j = m1
      ·rw [e]
       exact hdt.2 ⟨ht,hpq.1 hpe⟩
      ·exact uh HNO j (by omega) h2
     have HQ:=hide hq
     rw [ht] at d1
     have hpn : ∀ w',(binOp .neq 88 (.pointer (some ⟨p2,0,none⟩)) (.pointer (some ⟨q,0,none⟩))).run Tryz.prog w' = .ok (.bool false) w':=fun w' => by
      rw [hpe]
      exact ctx_same _ _
     clear hck hbl hcells hqb hp hq htk HBAD hb hml hm hcn hcy hcy1 hlk hdb hp2 hpb hdt hpq ht hln hmem hpe
     go_wp2_with fail
     go_quiet ((fail))
     go_wp2_with fail
     go_quiet ((fail))
     go_wp2
     go_roundg m1
     case measure =>
      have h9:=uh HG
      omega
     case rel => exact ⟨m1,q,Nat.le_of_lt (uh HML),rfl,rfl,uh HQ,below_dN (uh HB) _,uh HNO2⟩
    ·have HF:=hide (uh HBAD (by
      cases h9 : condBad (allV x) ks m1 with
      | true => rfl
      | false => exact absurd (hpq.2 (hdt.1 h9).2) hpe))
     rw [ht] at d1
     have hpn : ∀ n1,(binOp .neq 88 (.pointer (some ⟨p2,0,none⟩)) (.pointer (some ⟨q,0,none⟩))).run Tryz.prog (wr.drewN n1) = .ok (.bool true) (wr.drewN n1):=fun n1 => by
      have hb9:=below_dN (Below.refl wr.heap.size wr) n1
      exact ctx_other _ hpe (hpb.below hb9 hpb.lt) (hqb.below hb9 hqb.lt)
     clear hck hbl hcells hqb hp hq htk HBAD hb hml hm hcn hcy hcy1 hlk hdb hp2 hpb hdt hpq ht hln hmem hpe
     go_wp2_with fail
     go_quiet ((fail))
     go_wp2_with fail
     go_quiet ((fail))
     go_wp2
     exact uh HF _ (below_dN (below_dN (uh HB) _) _)
   ·have HF:=hide (uh HBAD (by
      cases h9 : condBad (allV x) ks m1 with
      | true => rfl
      | false => exact absurd (hdt.1 h9).1 ht))
    have htb : (dv.type == 2) = false:=by rw [beq_eq_false_iff_ne]; exact ht
    have htn : (dv.type != 2) = true:=by rw [bne_iff_ne]; exact ht
    clear hck hbl hcells hqb hp hq htk HBAD hb hml hm hcn hcy hcy1 hlk hdb hp2 hpb hdt hpq ht hln hmem
    go_wp2_with fail
    go_quiet ((fail))
    go_wp2_with fail
    go_quiet ((fail))
    go_wp2
    exact uh HF _ (below_dN (below_dN (uh HB) _) _)
  ·have HF:=hide (uh HBAD (hcn hl))
   have hlk2 : ∀ nq,(Instr.lookup 84 (.map (some vb)) (.string c.name) false).run Tryz.prog (wr.drewN nq) = .ok (.pointer none) (wr.drewN nq):=fun nq => by
    have h9:=hlk nq
    rw [if_neg hl] at h9
    exact h9
   generalize c.name = nm at *
   clear hck hbl hcells hqb hp hq htk hl HBAD hb hml hm hcn hcy hlk hln hmem
   go_wp2_with fail
   go_quiet ((fail))
   go_wp2_with fail
   go_quiet ((fail))
   go_wp2
   exact uh HF _ (below_dN (below_dN (uh HB) _) _)
theorem clk_ok (vs : List DVar) (k : Nat) (hk : k < vs.length) : clkBad vs k = !okClk vs vs[k].clock:=by
 rw [clk_at vs k hk]
 unfold okClk
 rw [Bool.not_not]
def clocksF (vs : List DVar) : Int × Int:=match firstTo (clkBad vs) vs.length with
 | some k => (3,(k : Int))
 | none => (0,0)
theorem cond_small {w : World} {v : Value} {ks : List DCond} (h : SlAt 2 24 RCond 0 w v ks) : ∀ c,c ∈ ks → c.name.size ≤ maxLen:=fun c hc => by
 obtain ⟨k,hk,rfl⟩:=List.mem_iff_getElem.1 hc
 obtain ⟨_,_,_,_,_,hx⟩:=h
 obtain ⟨_,_,_,_,_,_,_,_,hR⟩:=hx k hk
 have h9:=hR.2
 unfold Len at h9
 unfold maxLen
 omega
theorem Ck.order {W w : World} {ns : List DNode} {i : Nat} {x : DNode} {b o cb EB : Nat} {G : List Int} {sb vb : Nat} {oa : Option Addr} {on oc : Nat} {D : List Nat} {C L : List DCond → Option Nat} {N : Nat} (h : Ck W w ns i x b o cb EB G sb vb (.slice oa on oc) D C L N) (k : Nat) (hk : k < (allV x).length) :
  ∃ g cv p,oa = some ⟨g,0,none⟩ ∧ w.cell? ⟨g,k,none⟩ = some (.pointer (some ⟨D.getD k 0,0,none⟩)) ∧ BlkAt w (D.getD k 0) 122 (declCells (allV x)[k] cv p (G.getD k 0) .nilFunc) ∧ C (allV x)[k].clock = some p ∧ SlAt 2 24 RCond 0 W cv (allV x)[k].clock:=by
 obtain ⟨cv,p,h4,h5,h6⟩:=h.sc.decl k hk
 have hdl:=h.sc.dlen
 rcases h.sc.ord.shape with ⟨h1,h2⟩ | ⟨g,cap,h1,_,h2,_⟩
 ·rw [h2] at hdl
  simp at hdl
  omega
 ·simp only [Value.slice.injEq] at h1
  have h3:=h.sc.ord.cellD (g:=g) (c:=oc) (n:=on) (by rw [h1.1]) k (by rw [hdl]; exact hk)
  exact ⟨g,cv,p,h1.1,h3,h4,h5,h6⟩
set_option maxRecDepth 20000 in
set_option maxHeartbeats 8000000 in
theorem clocks_ok (W w : World) (ns : List DNode) (i : Nat) (x : DNode) (b o cb EB : Nat) (G : List Int) (sb vb : Nat) (ov : Value) (D : List Nat) (C L : List DCond → Option Nat) (N : Nat) (h : Ck W w ns i x b o cb EB G sb vb ov D C L N) (hvl : (allV x).length ≤ 10000) :
  Calls Tryz.prog 35 #[.pointer (some ⟨cb,0,none⟩)] w (ChPost (clocksF (allV x)) w):=by
 obtain ⟨oa,oc,hov⟩:=h.sc.ord.slice
 rw [h.sc.dlen] at hov
 subst hov
 have c0:=h.blk.cell (i:=0) (v:=.pointer (some ⟨sb,0,none⟩)) rfl
 have s1:=h.sc.sblk.cell (i:=1) (v:=.slice oa (allV x).length oc) rfl
 have HC:=hide h
 clear h
 obtain ⟨PO,hPO⟩ : ∃ PO : Ending → World → Prop,PO = ChPost (clocksF (allV x)) w:=⟨_,rfl⟩
 rw [← hPO]
 have HPO:=hide hPO
 clear hPO
 go_enter Tryz.func35,Tryz.ntmps35
 go_wp2
 go_loopg [14] (allV x).length (fun gm iv wr => ∃ k : Nat,k ≤ (allV x).length ∧ gm = (allV x).length - k ∧ iv = .int .i64 k ∧ Below w.heap.size w wr ∧ ∀ j,j < k → clkBad (allV x) j = false)
 case atStart => exact ⟨0,Nat.zero_le _,by omega,rfl,Below.refl _ _,fun j hj => absurd hj (Nat.not_lt_zero _)⟩
 case round =>
  obtain ⟨k,hk,hg,rfl,hb,hno⟩:=hrel
  rename World => wr
  have HG:=hide hg
  have HB:=hide hb
  have HNO:=hide hno
  clear c0 s1 hg hno
  by_cases hlt : k < (allV x).length
  case neg =>
   have hke : k = (allV x).length:=by omega
   have HFIN : Hid (PO (.returned (.tuple #[.int .i64 0,.int .i64 0])) wr):=by
    rw [uh HPO]
    unfold clocksF
    rw [first_none (fun j hj => uh HNO j (by omega))]
    exact hide ⟨rfl,uh HB⟩
   have hkI : ¬ (k : Int) < ((allV x).length : Int):=by omega
   clear hke hb
   go_wp2
   exact uh HFIN
  have hck:=(uh HC).below hb
  obtain ⟨g,cv,p,hoe,d0,hdb,hp,hcv⟩:=hck.order k hlt
  subst hoe
  have d3:=hdb.cell (i:=3) (v:=.pointer (some ⟨p,0,none⟩)) rfl
  have HIS:=hide (isClock_ok W wr ns i x b o cb EB G sb vb _ D C L N hck _ p hp (cond_small hcv))
  have hco:=clk_ok (allV x) k hlt
  have hkI : (k : Int) < ((allV x).length : Int):=by omega
  have HLT:=hide hlt
  have HHIT : Hid (clkBad (allV x) k = true → ∀ w',Below w.heap.size w w' → PO (.returned (.tuple #[.int .i64 3,.int .i64 (k : Int)])) w'):=fun h9 w' hb' => by
   rw [uh HPO]
   unfold clocksF
   rw [first_hit hlt h9 (uh HNO)]
   exact ⟨rfl,hb'⟩
  generalize okClk (allV x) (allV x)[k].clock = ok at HIS hco
  generalize D.getD k 0 = dk at *
  clear hck hdb hp hcv hb hlt
  cases ok
  ·have HF:=hide (uh HHIT hco)
   clear HHIT hco
   go_wp2_with fail
   refine (uh HIS).mono ?_
   rintro e w1 ⟨rfl,hb1⟩
   have HE:=hide (uh HF w1 ((uh HB).trans (hb1.mono (uh HB).size)))
   clear hb1
   go_wp2
   exact uh HE
  ·have HND : Hid (∀ j,j < k + 1 → clkBad (allV x) j = false):=fun j hj => by
    by_cases c : j < k
    ·exact uh HNO j c
    ·have e : j = k:=by omega
     rw [e,hco]
     rfl
   clear HHIT hco
   go_wp2_with fail
   refine (uh HIS).mono ?_
   rintro e w1 ⟨rfl,hb1⟩
   have HB1:=hide ((uh HB).trans (hb1.mono (uh HB).size))
   clear hb1
   go_wp2
   go_roundg ((allV x).length - (k + 1))
   case measure =>
    have h8:=uh HLT
    have h9:=uh HG
    omega
   case rel => exact ⟨k + 1,uh HLT,rfl,by go_num,uh HB1,uh HND⟩
def missF (n : Nat) (G : List Int) (ne : Nat) : Int × Int:=match firstTo (fun k => G.getD k 0 == -1) n with
 | some _ => (4,(ne : Int))
 | none => (0,0)
set_option maxRecDepth 20000 in
set_option maxHeartbeats 8000000 in
theorem missing_ok (W w : World) (ns : List DNode) (i : Nat) (x : DNode) (b o cb EB : Nat) (G : List Int) (sb vb : Nat) (ov : Value) (D : List Nat) (C L : List DCond → Option Nat) (N : Nat) (h : Ck W w ns i x b o cb EB G sb vb ov D C L N) (hvl : (allV x).length ≤ 10000) :
  Calls Tryz.prog 37 #[.pointer (some ⟨cb,0,none⟩)] w (ChPost (missF (allV x).length G x.eqs.length) w):=by
 obtain ⟨oa,oc,hov⟩:=h.sc.ord.slice
 rw [h.sc.dlen] at hov
 subst hov
 have c0:=h.blk.cell (i:=0) (v:=.pointer (some ⟨sb,0,none⟩)) rfl
 have s0:=h.sc.sblk.cell (i:=0) (v:=.pointer (some ⟨b,o + i * 5,none⟩)) rfl
 have s1:=h.sc.sblk.cell (i:=1) (v:=.slice oa (allV x).length oc) rfl
 obtain ⟨hbl,cs,hl,hc,v1,v2,v3,v4,rfl,hs,_,_,_,hq⟩:=h.node
 obtain ⟨qa,qc,rfl⟩:=hq.shape
 have k4:=(h.sc.old.cell (p:=⟨b,_,none⟩) hbl).trans (hc 4 (by simp))
 simp only [List.getElem_cons_zero,List.getElem_cons_succ] at k4
 have HC:=hide h
 obtain ⟨PO,hPO⟩ : ∃ PO : Ending → World → Prop,PO = ChPost (missF (allV x).length G x.eqs.length) w:=⟨_,rfl⟩
 rw [← hPO]
 have HPO:=hide hPO
 clear hPO h hc hl hs hq
 go_enter Tryz.func37,Tryz.ntmps37
 go_wp2
 go_loopg [14] (allV x).length (fun gm iv wr => ∃ k : Nat,k ≤ (allV x).length ∧ gm = (allV x).length - k ∧ iv = .int .i64 k ∧ w = wr ∧ ∀ j,j < k → (G.getD j 0 == -1) = false)
 case atStart => exact ⟨0,Nat.zero_le _,by omega,rfl,rfl,fun j hj => absurd hj (Nat.not_lt_zero _)⟩
 case round =>
  obtain ⟨k,hk,hg,rfl,rfl,hno⟩:=hrel
  have HG:=hide hg
  have HNO:=hide hno
  clear hg hno
  by_cases hlt : k < (allV x).length
  case neg =>
   have hke : k = (allV x).length:=by omega
   have HFIN : Hid (PO (.returned (.tuple #[.int .i64 0,.int .i64 0])) w):=by
    rw [uh HPO]
    unfold missF
    rw [first_none (fun j hj => uh HNO j (by omega))]
    exact hide ⟨rfl,Below.refl _ _⟩
   have hkI : ¬ (k : Int) < ((allV x).length : Int):=by omega
   clear hke
   go_wp2
   exact uh HFIN
  obtain ⟨g,cv,p,hoe,d0,hdb,hp,hcv⟩:=(uh HC).order k hlt
  subst hoe
  have d4:=hdb.cell (i:=4) (v:=.int .i64 (G.getD k 0)) rfl
  have hkI : (k : Int) < ((allV x).length : Int):=by omega
  have HLT:=hide hlt
  have HHIT : Hid ((G.getD k 0 == -1) = true → ∀ w',Below w.heap.size w w' → PO (.returned (.tuple #[.int .i64 4,.int .i64 (x.eqs.length : Int)])) w'):=fun h9 w' hb' => by
   rw [uh HPO]
   unfold missF
   rw [first_hit hlt h9 (uh HNO)]
   exact ⟨rfl,hb'⟩
  generalize hgk : G.getD k 0 = gk9 at d4 HHIT
  have HGK:=hide hgk
  generalize D.getD k 0 = dk at *
  clear hdb hp hcv hlt hgk
  by_cases he : gk9 = -1
  ·have HF:=hide (uh HHIT (by rw [he]; rfl))
   subst he
   clear HHIT
   go_wp2_with fail
   go_quiet ((fail))
   go_wp2
   exact uh HF _ (below_dN (Below.refl _ _) _)
  ·have hne : (gk9 == -1) = false:=by rw [beq_eq_false_iff_ne]; exact he
   have HND : Hid (∀ j,j < k + 1 → (G.getD j 0 == -1) = false):=fun j hj => by
    by_cases c : j < k
    ·exact uh HNO j c
    ·have e : j = k:=by omega
     rw [e,uh HGK]
     exact hne
   clear HHIT he
   go_wp2
   go_roundg ((allV x).length - (k + 1))
   case measure =>
    have h8:=uh HLT
    have h9:=uh HG
    omega
   case rel => exact ⟨k + 1,uh HLT,rfl,by go_num,rfl,uh HND⟩
def TfPost (R : Int) (w : World) (e : Ending) (w' : World) : Prop:=e = .returned (.int .i64 R) ∧ w' = w
set_option maxHeartbeats 1000000 in
theorem typeFrom_ok (us : List Int) (a r : Int) (w : World) (oa : Option Addr) (oc : Nat) (ho : ∀ k (hk : k < us.length),∃ b o,oa = some ⟨b,o,none⟩ ∧ w.cell? ⟨b,o + k,none⟩ = some (.int .i64 us[k])) (hl : us.length ≤ 1000000) :
  Calls Tryz.prog 140 #[.slice oa us.length oc,.int .i64 a,.int .i64 r] w (TfPost (if us.all (fun u => u == a) then r else 0) w):=by
 have HO:=hide ho
 clear ho
 obtain ⟨PO,hPO⟩ : ∃ PO : Ending → World → Prop,PO = TfPost (if us.all (fun u => u == a) then r else 0) w:=⟨_,rfl⟩
 rw [← hPO]
 have HPO:=hide hPO
 clear hPO
 go_enter Tryz.func140,Tryz.ntmps140
 go_wp2
 go_loopg [11] us.length (fun gm iv wr => ∃ k : Nat,k ≤ us.length ∧ gm = us.length - k ∧ iv = .int .i64 k ∧ w = wr ∧ ∀ j (hj : j < us.length),j < k → us[j] = a)
 case atStart => exact ⟨0,Nat.zero_le _,by omega,rfl,rfl,fun j _ hj => absurd hj (Nat.not_lt_zero _)⟩
 case round =>
  obtain ⟨k,hk,hg,rfl,rfl,hno⟩:=hrel
  have HG:=hide hg
  have HNO:=hide hno
  clear hg hno
  by_cases hlt : k < us.length
  case neg =>
   have HF : Hid (PO (.returned (.int .i64 r)) w):=by
    rw [uh HPO,if_pos]
    ·exact hide ⟨rfl,rfl⟩
    ·rw [List.all_eq_true]
     intro u hu
     obtain ⟨j,hj,rfl⟩:=List.mem_iff_getElem.1 hu
     rw [beq_iff_eq]
     exact uh HNO j hj (by omega)
   have hkI : ¬ (k : Int) < (us.length : Int):=by omega
   clear HPO
   go_wp2
   exact uh HF
  obtain ⟨b,o,hoe,k0⟩:=uh HO k hlt
  subst hoe
  generalize hu : us[k] = u at k0
  have HU : Hid (∃ h9 : k < us.length,us[k] = u):=hide ⟨hlt,hu⟩
  have HLT:=hide hlt
  have hkI : (k : Int) < (us.length : Int):=by omega
  clear hu hlt
  by_cases he : u = a
  ·have HND : Hid (∀ j (hj : j < us.length),j < k + 1 → us[j] = a):=fun j hj h9 => by
    by_cases c : j < k
    ·exact uh HNO j hj c
    ·have e : j = k:=by omega
     subst e
     obtain ⟨_,h8⟩:=uh HU
     exact h8.trans he
   rw [he] at k0
   have hee : (a == a) = true:=by simp
   have hnn : (a != a) = false:=by simp
   clear he HO HU
   go_wp2
   go_roundg (us.length - (k + 1))
   case measure =>
    have h8:=uh HLT
    have h9:=uh HG
    omega
   case rel => exact ⟨k + 1,uh HLT,rfl,by go_num,rfl,uh HND⟩
  ·have HF : Hid (PO (.returned (.int .i64 0)) w):=by
    rw [uh HPO,if_neg]
    ·exact hide ⟨rfl,rfl⟩
    ·rw [List.all_eq_true]
     intro h9
     obtain ⟨h7,h8⟩:=uh HU
     have h6:=h9 _ (List.getElem_mem h7)
     rw [beq_iff_eq] at h6
     exact he (h8.symm.trans h6)
   have hne : (u == a) = false:=by rw [beq_eq_false_iff_ne]; exact he
   have hnn : (u != a) = true:=by rw [bne_iff_ne]; exact he
   clear he HO HPO HU
   go_wp2
   exact uh HF
set_option maxHeartbeats 1000000 in
theorem nameType_ok (W w : World) (nv : Value) (vs : List DVar) (G : List Int) (sb vb : Nat) (ov : Value) (D : List Nat) (C L : List DCond → Option Nat) (N : Nat) (h : Sc W w nv .nilFunc vs G sb vb ov D C L N) (nm : ByteArray) (hn : nm.size ≤ maxLen) :
  Calls Tryz.prog 139 #[.pointer (some ⟨sb,0,none⟩),.string nm] w (Ans (.int .i64 (lookV vs nm).type) w):=by
 have s2:=h.sblk.cell (i:=2) (v:=.map (some vb)) rfl
 have hlk : ∀ nq,(Instr.lookup 84 (.map (some vb)) (.string nm) false).run Tryz.prog (w.drewN nq) = .ok (varF vs D nm) (w.drewN nq):=fun nq => by
  obtain ⟨n,f',h1,h2,h3⟩:=h.vars
  have h9:=(h2.below (below_dN (Below.refl _ w) nq)).look (t:=84) Tryz.underlying9 Tryz.underlying84 (by kernel_rfl) hn
  rw [h3] at h9
  exact h9
 have hlk1:=hlk 0
 unfold lookV
 by_cases hl : lookN vs nm < vs.length
 ·rw [dif_pos hl]
  obtain ⟨cv,p,hdb,_⟩:=h.decl _ hl
  have d1:=hdb.cell (i:=1) (v:=.int .i64 vs[lookN vs nm].type) rfl
  have hlk2 : ∀ nq,(Instr.lookup 84 (.map (some vb)) (.string nm) false).run Tryz.prog (w.drewN nq) = .ok (.pointer (some ⟨D.getD (lookN vs nm) 0,0,none⟩)) (w.drewN nq):=fun nq => by
   have h9:=hlk nq
   unfold varF at h9
   rw [if_pos hl] at h9
   exact h9
  have hlk3 : (Instr.lookup 84 (.map (some vb)) (.string nm) false).run Tryz.prog w = .ok (.pointer (some ⟨D.getD (lookN vs nm) 0,0,none⟩)) w:=hlk2 0
  generalize vs[lookN vs nm].type = ty at *
  generalize D.getD (lookN vs nm) 0 = dk at *
  clear h hlk hlk1 hdb hn
  have HLL:=hide hl
  go_enter Tryz.func139,Tryz.ntmps139
  go_wp2
  go_ret
  exact ⟨rfl,Below.refl _ _⟩
 ·rw [dif_neg hl]
  have hlk3 : (Instr.lookup 84 (.map (some vb)) (.string nm) false).run Tryz.prog w = .ok (.pointer none) w:=by
   have h9:=hlk1
   unfold varF at h9
   rw [if_neg hl] at h9
   exact h9
  clear h hlk hlk1 hn hl
  go_enter Tryz.func139,Tryz.ntmps139
  go_wp2
  go_ret
  exact ⟨rfl,Below.refl _ _⟩
end Go.Proofs.YtfioeoihociilaaGreat
