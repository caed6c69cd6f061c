import Derived.Test.YtfioeoihociilaaGreatC8
import Derived.Test.YtfioeoihociilaaGreatC5
import Derived.Test.YtfioeoihociilaaGreatCR1
import Derived.Test.YtfioeoihociilaaGreatWI3
import Derived.Test.YtfioeoihociilaaGreatCS31
import Derived.Test.YtfioeoihociilaaGreatApp
namespace Go.Proofs.YtfioeoihociilaaGreat
open Go.RowKit
set_option linter.unusedSimpArgs false
set_option linter.unusedVariables false
def tyV (vs : List DVar) (code : List DItem) : Int:=fdV (tyItem vs) code code.length
def fitV (vs : List DVar) (code : List DItem) (ks : List DCond) : Bool:=fdV (α:=Ctx) (fitItem vs) code code.length ks
def tysTo (vs : List DVar) (codes : List (List DItem)) (ts : List Int) : Nat → Bool
 | 0 => true
 | k + 1 => tysTo vs codes ts k && (match codes[k]?,ts[k]? with | some c,some t => tyV vs c == t | _,_ => true)
def outsTo (vs : List DVar) (lhs : List ByteArray) (ts : List Int) : Nat → Bool
 | 0 => true
 | k + 1 => outsTo vs lhs ts k && (match lhs[k]?,ts[k]? with | some x,some t => (lookV vs x).type == t | _,_ => true)
def clksTo (vs : List DVar) (lhs : List ByteArray) (ck : List DCond) : Nat → Bool
 | 0 => true
 | k + 1 => clksTo vs lhs ck k && (match lhs[k]? with | some x => sameC (clkOf vs x) ck | _ => true)
def fitsTo (vs : List DVar) (codes : List (List DItem)) (ck : List DCond) : Nat → Bool
 | 0 => true
 | k + 1 => fitsTo vs codes ck k && (match codes[k]? with | some c => fitV vs c ck | _ => true)
def eqTail (vs : List DVar) (e : DEq) (its ots : List Int) (ck : List DCond) : Int :=
 if tysTo vs (codesOf e) its (codesOf e).length = false then 6
 else if outsTo vs e.lhs ots e.lhs.length = false then 6
 else if clksTo vs e.lhs ck e.lhs.length = false then 7
 else if fitsTo vs (codesOf e) ck (codesOf e).length = false then 7
 else 0
def firstV (vs : List DVar) (e : DEq) : DVar:=lookV vs (e.lhs.headD ⟨#[]⟩)
def eqFault (ns : List DNode) (i : Nat) (vs : List DVar) (e : DEq) : Int :=
 if e.call.size = 0 then eqTail vs e [(firstV vs e).type] [(firstV vs e).type] (firstV vs e).clock
 else match ns[(findI ns i e.call).toNat]? with
  | some g => if findI ns i e.call < 0 ∨ g.ins.length ≠ e.args.length ∨ g.outs.length ≠ e.lhs.length then 5 else eqTail vs e (g.ins.map (·.type)) (g.outs.map (·.type)) (firstV vs e).clock
  | none => 5
theorem and_to {f : Nat → Bool} {g : Nat → Bool} (h : ∀ k,f (k + 1) = (f k && g k)) (n k : Nat) (hk : k < n) (hg : g k = false) : f n = false:=by
 induction n with
 | zero => omega
 | succ n ih =>
  rw [h]
  by_cases e : k = n
  ·subst e; rw [hg,Bool.and_false]
  ·rw [ih (by omega),Bool.false_and]
theorem tys_no (vs : List DVar) (codes : List (List DItem)) (ts : List Int) (k : Nat) (h1 : k < codes.length) (h2 : k < ts.length) (h : tyV vs codes[k] ≠ ts[k]) : tysTo vs codes ts codes.length = false :=
 and_to (fun _ => rfl) _ k h1 (by rw [List.getElem?_eq_getElem h1,List.getElem?_eq_getElem h2]; simpa using h)
theorem tys_yes (vs : List DVar) (codes : List (List DItem)) (ts : List Int) (k : Nat) (h1 : k < codes.length) (h2 : k < ts.length) (h0 : tysTo vs codes ts k = true) (h : tyV vs codes[k] = ts[k]) : tysTo vs codes ts (k + 1) = true:=by
 unfold tysTo
 rw [h0,List.getElem?_eq_getElem h1,List.getElem?_eq_getElem h2]
 simpa using h
theorem outs_no (vs : List DVar) (lhs : List ByteArray) (ts : List Int) (k : Nat) (h1 : k < lhs.length) (h2 : k < ts.length) (h : (lookV vs lhs[k]).type ≠ ts[k]) : outsTo vs lhs ts lhs.length = false :=
 and_to (fun _ => rfl) _ k h1 (by rw [List.getElem?_eq_getElem h1,List.getElem?_eq_getElem h2]; simpa using h)
theorem outs_yes (vs : List DVar) (lhs : List ByteArray) (ts : List Int) (k : Nat) (h1 : k < lhs.length) (h2 : k < ts.length) (h0 : outsTo vs lhs ts k = true) (h : (lookV vs lhs[k]).type = ts[k]) : outsTo vs lhs ts (k + 1) = true:=by
 unfold outsTo
 rw [h0,List.getElem?_eq_getElem h1,List.getElem?_eq_getElem h2]
 simpa using h
theorem clks_no (vs : List DVar) (lhs : List ByteArray) (ck : List DCond) (k : Nat) (h1 : k < lhs.length) (h : sameC (clkOf vs lhs[k]) ck = false) : clksTo vs lhs ck lhs.length = false :=
 and_to (fun _ => rfl) _ k h1 (by rw [List.getElem?_eq_getElem h1]; exact h)
theorem clks_yes (vs : List DVar) (lhs : List ByteArray) (ck : List DCond) (k : Nat) (h1 : k < lhs.length) (h0 : clksTo vs lhs ck k = true) (h : sameC (clkOf vs lhs[k]) ck = true) : clksTo vs lhs ck (k + 1) = true:=by
 unfold clksTo
 rw [h0,List.getElem?_eq_getElem h1]
 exact h
theorem fits_no (vs : List DVar) (codes : List (List DItem)) (ck : List DCond) (k : Nat) (h1 : k < codes.length) (h : fitV vs codes[k] ck = false) : fitsTo vs codes ck codes.length = false :=
 and_to (fun _ => rfl) _ k h1 (by rw [List.getElem?_eq_getElem h1]; exact h)
theorem fits_yes (vs : List DVar) (codes : List (List DItem)) (ck : List DCond) (k : Nat) (h1 : k < codes.length) (h0 : fitsTo vs codes ck k = true) (h : fitV vs codes[k] ck = true) : fitsTo vs codes ck (k + 1) = true:=by
 unfold fitsTo
 rw [h0,List.getElem?_eq_getElem h1]
 exact h
def TyAt (w : World) (v : Value) (ts : List Int) : Prop:=∃ a cap,v = .slice a ts.length cap ∧ ∀ k (hk : k < ts.length),∃ b o,a = some ⟨b,o,none⟩ ∧ b < w.heap.size ∧ w.cell? ⟨b,o + k * 3 + 1,none⟩ = some (.int .i64 ts[k])
theorem TyAt.stays {w w' : World} {v : Value} {ts : List Int} (h : TyAt w v ts) (hb : Below w.heap.size w w') : TyAt w' v ts:=by
 obtain ⟨a,cap,hv,hx⟩:=h
 refine ⟨a,cap,hv,fun k hk => ?_⟩
 obtain ⟨b,o,ha,hlt,hc⟩:=hx k hk
 exact ⟨b,o,ha,Nat.lt_of_lt_of_le hlt hb.size,by rw [hb.cell (p:=⟨b,_,none⟩) hlt]; exact hc⟩
theorem ty_of {w : World} {v : Value} {xs : List DVar} (h : SlAt 3 48 RVar 0 w v xs) : TyAt w v (xs.map (·.type)):=by
 obtain ⟨a,cap,rfl,_,_,hx⟩:=h
 refine ⟨a,cap,by rw [List.length_map],fun k hk => ?_⟩
 rw [List.length_map] at hk
 obtain ⟨b,o,cs,ha,_,hlt,_,hc,⟨cl,rfl,_⟩⟩:=hx k hk
 refine ⟨b,o,ha,hlt,?_⟩
 have:=hc 1 (by simp)
 simpa using this
theorem eqTail_all (vs : List DVar) (e : DEq) (its ots : List Int) (ck : List DCond) :
  (tysTo vs (codesOf e) its (codesOf e).length = false → eqTail vs e its ots ck = 6) ∧
  (tysTo vs (codesOf e) its (codesOf e).length = true → outsTo vs e.lhs ots e.lhs.length = false → eqTail vs e its ots ck = 6) ∧
  (tysTo vs (codesOf e) its (codesOf e).length = true → outsTo vs e.lhs ots e.lhs.length = true → clksTo vs e.lhs ck e.lhs.length = false → eqTail vs e its ots ck = 7) ∧
  (tysTo vs (codesOf e) its (codesOf e).length = true → outsTo vs e.lhs ots e.lhs.length = true → clksTo vs e.lhs ck e.lhs.length = true → fitsTo vs (codesOf e) ck (codesOf e).length = false → eqTail vs e its ots ck = 7) ∧
  (tysTo vs (codesOf e) its (codesOf e).length = true → outsTo vs e.lhs ots e.lhs.length = true → clksTo vs e.lhs ck e.lhs.length = true → fitsTo vs (codesOf e) ck (codesOf e).length = true → eqTail vs e its ots ck = 0):=by
 unfold eqTail
 refine ⟨fun h => by rw [if_pos h],fun h1 h => by rw [h1,if_neg (by simp),if_pos h],fun h1 h2 h => by rw [h1,if_neg (by simp),h2,if_neg (by simp),if_pos h],fun h1 h2 h3 h => by rw [h1,if_neg (by simp),h2,if_neg (by simp),h3,if_neg (by simp),if_pos h],fun h1 h2 h3 h => by rw [h1,if_neg (by simp),h2,if_neg (by simp),h3,if_neg (by simp),h,if_neg (by simp)]⟩
theorem ty_one {w : World} (t : Int) (T : TypeId) : TyAt (w.alloc (.cells #[.string ⟨#[]⟩,.int .i64 t,.slice none 0 0] T)) (.slice (some ⟨w.heap.size,0,none⟩) 1 1) [t]:=by
 refine ⟨_,1,rfl,fun k hk => ⟨w.heap.size,0,rfl,by simp,?_⟩⟩
 obtain rfl : k = 0:=by simpa using hk
 rw [World.cell?_alloc_at _ _ _ _ rfl]
 rfl
def typB (ns : List DNode) (i : Nat) (vs : List DVar) (e : DEq) : Bool :=
 if e.call.size = 0 then tyV vs e.code == (firstV vs e).type
 else match ns[(findI ns i e.call).toNat]? with
  | some g => tysTo vs e.args (g.ins.map (·.type)) e.args.length && outsTo vs e.lhs (g.outs.map (·.type)) e.lhs.length
  | none => false
theorem tyV_fd (vs : List DVar) (code : List DItem) (h : wk code 0 = true) : Fd (tyItem vs) code 0 code.length [tyV vs code]:=by
 obtain ⟨s,hs⟩:=fd_all (tyItem vs) h
 unfold tyV
 rw [fdV_of hs]
 exact hs
def CdOK (c : List DItem) : Prop:=(∀ t,t ∈ c → itB t = true) ∧ wk c 0 = true ∧ c.length ≤ 6000
theorem typeOf_in (W w : World) (nv : Value) (vs : List DVar) (G : List Int) (sb vb : Nat) (ov : Value) (D : List Nat) (C L : List DCond → Option Nat) (N : Nat) (hS : Sc W w nv .nilFunc vs G sb vb ov D C L N) (code : List DItem) (cv : Value) (hcv : SlAt 3 32 RItem 0 W cv code) (hc : CdOK code) :
  ∀ w',Below w.heap.size w w' → Calls Tryz.prog 115 #[.pointer (some ⟨sb,0,none⟩),cv] w' (Ans (.int .i64 (tyV vs code)) w'):=fun w' hb =>
 typeOf_ok W w' nv vs G sb vb ov D C L N (hS.below hb) code cv (hcv.stays RItem_kept (hS.below hb).old) hc.1 hc.2.2 _ (tyV_fd vs code hc.2.1) hc.2.1
theorem Sc.var {W w : World} {nv fz : Value} {vs : List DVar} {G : List Int} {sb vb : Nat} {ov : Value} {D : List Nat} {C L : List DCond → Option Nat} {N : Nat} (h : Sc W w nv fz vs G sb vb ov D C L N) (nm : ByteArray) (hn : nm.size ≤ maxLen) (hl : lookN vs nm < vs.length) :
  ∃ dk p cv,(∀ w',Below w.heap.size w w' → (Instr.lookup 84 (.map (some vb)) (.string nm) false).run Tryz.prog w' = .ok (.pointer (some ⟨dk,0,none⟩)) w') ∧ BlkAt w dk 122 (declCells (lookV vs nm) cv p (G.getD (lookN vs nm) 0) fz) ∧ C (clkOf vs nm) = some p:=by
 obtain ⟨cv,p,h1,h2,_⟩:=h.decl _ hl
 have e : lookV vs nm = vs[lookN vs nm]:=by unfold lookV; rw [dif_pos hl]
 refine ⟨D.getD (lookN vs nm) 0,p,cv,fun w' hb => ?_,by rw [e]; exact h1,by unfold clkOf; rw [e]; exact h2⟩
 obtain ⟨n,f',h3,h4,h5⟩:=h.vars
 have h9:=(h4.below hb).look (t:=84) Tryz.underlying9 Tryz.underlying84 (by kernel_rfl) hn
 rw [h5] at h9
 unfold varF at h9
 rw [if_pos hl] at h9
 exact h9
set_option maxRecDepth 20000 in
set_option maxHeartbeats 8000000 in
theorem typesFit_code (W w : World) (ns : List DNode) (i : Nat) (x : DNode) (b o cb EB : Nat) (G : List Int) (sb vb : Nat) (ov : Value) (D : List Nat) (C L : List DCond → Option Nat) (N : Nat) (h : Ck W w ns i x b o cb EB G sb vb ov D C L N) (e : DEq) (qb qo : Nat) (he : At 4 REq W qb qo e)
  (hg : e.call.size = 0) (hlh : 0 < e.lhs.length) (hlk : ∀ s,s ∈ e.lhs → lookN (allV x) s < (allV x).length) (hcd : CdOK e.code) :
  Calls Tryz.prog 91 #[.pointer (some ⟨cb,0,none⟩),.pointer (some ⟨qb,qo,none⟩)] w (Ans (.bool (typB ns i (allV x) e)) w):=by
 have c0:=h.blk.cell (i:=0) (v:=.pointer (some ⟨sb,0,none⟩)) rfl
 have s2:=h.sc.sblk.cell (i:=2) (v:=.map (some vb)) rfl
 have hold:=h.sc.old
 have HR : Hid (typB ns i (allV x) e = (tyV (allV x) e.code == (lookV (allV x) (e.lhs.headD ⟨#[]⟩)).type)):=by
  refine hide ?_
  unfold typB firstV
  rw [if_pos hg]
 obtain ⟨lhs,code,s,args⟩:=e
 obtain ⟨hbl,cs,hl,hc,x1,x2,x3,rfl,hs,h1,h2,h3⟩:=he
 simp only at *
 obtain ⟨b2,cc2,rfl⟩:=h2.shape
 obtain ⟨lb,lo,lcap,hx1,hat⟩:=h1.at' 0 hlh
 subst hx1
 obtain ⟨hlbl,ls,hll,hlc,rfl,hls⟩:=hat
 have k0:=(hold.cell (p:=⟨qb,_,none⟩) hbl).trans (hc 0 (by simp))
 have k1:=(hold.cell (p:=⟨qb,_,none⟩) hbl).trans (hc 1 (by simp))
 have k2:=(hold.cell (p:=⟨qb,_,none⟩) hbl).trans (hc 2 (by simp))
 have l0:=(hold.cell (p:=⟨lb,_,none⟩) hlbl).trans (hlc 0 (by simp))
 simp only [List.getElem_cons_zero,List.getElem_cons_succ,Nat.add_zero,Nat.zero_mul] at k0 k1 k2 l0
 have ehd : lhs.headD ⟨#[]⟩ = lhs[0]:=by
  cases lhs with
  | nil => simp at hlh
  | cons a r => rfl
 rw [ehd] at HR
 have hn : lhs[0].size ≤ maxLen:=by unfold Len at hls; unfold maxLen; omega
 obtain ⟨dk,p,cv,hlk1,hdb,_⟩:=h.sc.var lhs[0] hn (hlk _ (List.getElem_mem _))
 have d1:=hdb.cell (i:=1) (v:=.int .i64 (lookV (allV x) lhs[0]).type) rfl
 have HTY:=hide (typeOf_in W w _ (allV x) G sb vb ov D C L N h.sc code _ h2 hcd)
 have d4:=empty_yes s hg
 have d4':=isEmpty_yes s hg
 generalize (lookV (allV x) lhs[0]).type = vt at *
 generalize tyV (allV x) code = ty at *
 generalize lhs[0] = nm at *
 have hll0 : (0 : Int) < (lhs.length : Int):=by omega
 generalize lhs.length = ll at *
 generalize typB ns i (allV x) ⟨lhs,code,s,args⟩ = R at *
 obtain ⟨LB,hLB⟩ : ∃ LB : World → Prop,∀ w',LB w' ↔ (w'.cell? ⟨cb,0,none⟩ = some (.pointer (some ⟨sb,0,none⟩)) ∧ w'.cell? ⟨sb,2,none⟩ = some (.map (some vb)) ∧ w'.cell? ⟨qb,qo,none⟩ = some (.slice (some ⟨lb,lo,none⟩) ll lcap) ∧ w'.cell? ⟨qb,qo + 1,none⟩ = some (.slice b2 code.length cc2) ∧ w'.cell? ⟨lb,lo,none⟩ = some (.string nm) ∧ w'.cell? ⟨dk,1,none⟩ = some (.int .i64 vt) ∧ (Instr.lookup 84 (.map (some vb)) (.string nm) false).run Tryz.prog w' = .ok (.pointer (some ⟨dk,0,none⟩)) w'):=⟨_,fun _ => Iff.rfl⟩
 have HLB : Hid (∀ w',Below w.heap.size w w' → LB w'):=fun w' hb => by
  have hk : ∀ {p : Addr} {v : Value},w.cell? p = some v → w'.cell? p = some v:=fun {p v} h9 => (hb.cell (World.block_lt_of_cell? w _ h9)).trans h9
  exact (hLB w').2 ⟨hk c0,hk s2,hk k0,hk k1,hk l0,hk d1,hlk1 w' hb⟩
 have HT : Hid (Calls Tryz.prog 115 #[.pointer (some ⟨sb,0,none⟩),.slice b2 code.length cc2] w.drew fun e w' => e = .returned (.int .i64 ty) ∧ Hid (Below w.heap.size w w') ∧ (w'.cell? ⟨cb,0,none⟩ = some (.pointer (some ⟨sb,0,none⟩)) ∧ w'.cell? ⟨sb,2,none⟩ = some (.map (some vb)) ∧ w'.cell? ⟨qb,qo,none⟩ = some (.slice (some ⟨lb,lo,none⟩) ll lcap) ∧ w'.cell? ⟨qb,qo + 1,none⟩ = some (.slice b2 code.length cc2) ∧ w'.cell? ⟨lb,lo,none⟩ = some (.string nm) ∧ w'.cell? ⟨dk,1,none⟩ = some (.int .i64 vt) ∧ (Instr.lookup 84 (.map (some vb)) (.string nm) false).run Tryz.prog w' = .ok (.pointer (some ⟨dk,0,none⟩)) w')):=by
  refine hide ((uh HTY w.drew ((Below.refl _ _).drew)).mono ?_)
  rintro e w' ⟨rfl,hb⟩
  have hb':=below_drew_l hb
  exact ⟨rfl,hb',(hLB w').1 (uh HLB w' hb')⟩
 have hlk0:=hlk1 w (Below.refl _ _)
 have hlkd:=hlk1 w.drew ((Below.refl _ _).drew)
 clear h hc hl hs h1 h2 h3 hlc hll hls hold hbl hlbl hg hlk hcd hn hdb hLB HLB HTY ehd hlk1
 go_enter Tryz.func91,Tryz.ntmps91
 go_wp2_with fail
 go_region_held3 (fun w' => w'.cell? ⟨cb,0,none⟩ = some (.pointer (some ⟨sb,0,none⟩)) ∧ w'.cell? ⟨sb,2,none⟩ = some (.map (some vb)) ∧ w'.cell? ⟨qb,qo,none⟩ = some (.slice (some ⟨lb,lo,none⟩) ll lcap) ∧ w'.cell? ⟨qb,qo + 1,none⟩ = some (.slice b2 code.length cc2) ∧ w'.cell? ⟨lb,lo,none⟩ = some (.string nm) ∧ w'.cell? ⟨dk,1,none⟩ = some (.int .i64 vt) ∧ (Instr.lookup 84 (.map (some vb)) (.string nm) false).run Tryz.prog w' = .ok (.pointer (some ⟨dk,0,none⟩)) w') (go_keep) (first | (go_at_call 115; refine (uh HT).mono ?_; rintro e w1 ⟨rfl,HB1,z0,z1,z2,z3,z4,z5,z6⟩; clear HT))
 all_goals
  go_wp2
  go_ret
  exact ⟨ret_bx (uh HR).symm,uh HB1⟩
theorem eql_ptr_same {P : Program} (w : World) {tp te : TypeId} {j : TypeInfo} (a : Addr) (hp : P.underlying tp = some (.pointer te)) (hte : P.info? te = some j) : (binOp .eql tp (.pointer (some a)) (.pointer (some a))).run P w = .ok (.bool true) w:=by
 have h : ∀ d : Nat,(Op.equalIn (d + 1) tp (.pointer (some a)) (.pointer (some a))).run P w = .ok true w:=fun d => by
  simp [Op.equalIn,run_underlying hp,sizeOf,typeInfo,hte,run_sameAddr_same]
 simp only [binOp]
 simp [Op.equal,Op.maxDepth,h 9999]
theorem eql_ptr_other {P : Program} (w : World) {tp te : TypeId} {j : TypeInfo} {a b : Addr} {ca cb : Array Value} {ta tb : TypeId} (hp : P.underlying tp = some (.pointer te)) (hte : P.info? te = some j) (hsz : j.size ≠ 0) (hne : a ≠ b) (ha : w.heap[a.block]? = some (.cells ca ta (0,0))) (hb : w.heap[b.block]? = some (.cells cb tb (0,0))) : (binOp .eql tp (.pointer (some a)) (.pointer (some b))).run P w = .ok (.bool false) w:=by
 have h : ∀ d : Nat,(Op.equalIn (d + 1) tp (.pointer (some a)) (.pointer (some b))).run P w = .ok false w:=fun d => by
  simp [Op.equalIn,run_underlying hp,sizeOf,typeInfo,hte,hsz,run_sameAddr_other w hne ha hb]
 simp only [binOp]
 simp [Op.equal,Op.maxDepth,h 9999]
theorem Trie.eql {w : World} {lo : Nat} {X : Nat → Prop} {C L : List DCond → Option Nat} {N : Nat} (h : Trie w lo X C L N) {ka kb : List DCond} {p q : Nat} (ha : C ka = some p) (hb : C kb = some q) : (binOp .eql 88 (.pointer (some ⟨p,0,none⟩)) (.pointer (some ⟨q,0,none⟩))).run Tryz.prog w = .ok (.bool (sameC ka kb)) w:=by
 obtain ⟨j,h1,h2⟩:=info_ctx
 by_cases e : p = q
 ·subst e
  rw [(sameC_iff ka kb).2 (h.inj _ _ _ ha hb)]
  exact eql_ptr_same w _ Tryz.underlying88 h1
 ·have hf : sameC ka kb = false:=by
   cases hc : sameC ka kb with
   | false => rfl
   | true =>
    have h9:=(sameC_iff ka kb).1 hc
    rw [h9,hb] at ha
    exact absurd (Option.some.inj ha).symm e
  rw [hf]
  exact eql_ptr_other w Tryz.underlying88 h1 h2 (fun e9 => e (congrArg Addr.block e9)) (h.blk _ _ ha).1 (h.blk _ _ hb).1
theorem Trie.neq {w : World} {lo : Nat} {X : Nat → Prop} {C L : List DCond → Option Nat} {N : Nat} (h : Trie w lo X C L N) {ka kb : List DCond} {p q : Nat} (ha : C ka = some p) (hb : C kb = some q) : (binOp .neq 88 (.pointer (some ⟨p,0,none⟩)) (.pointer (some ⟨q,0,none⟩))).run Tryz.prog w = .ok (.bool (!sameC ka kb)) w:=by
 by_cases e : p = q
 ·subst e
  rw [(sameC_iff ka kb).2 (h.inj _ _ _ ha hb)]
  exact ctx_same w p
 ·have hf : sameC ka kb = false:=by
   cases hc : sameC ka kb with
   | false => rfl
   | true =>
    have h9:=(sameC_iff ka kb).1 hc
    rw [h9,hb] at ha
    exact absurd (Option.some.inj ha).symm e
  rw [hf]
  exact ctx_other w e (h.blk _ _ ha).1 (h.blk _ _ hb).1
def fitB (vs : List DVar) (t : DItem) (ks : List DCond) : Bool :=
 if t.op = 3 then sameC (clkOf vs t.name) ks
 else if t.op = 23 then (match ks.getLast? with | none => false | some c => condE c ⟨t.name,t.val == 1⟩) && sameC (clkOf vs t.name) ks.dropLast
 else if t.op = 24 then sameC (clkOf vs t.name) ks && decide (ks.length < 8)
 else true
set_option maxRecDepth 20000 in
set_option maxHeartbeats 4000000 in
theorem fits_ok (W w : World) (nv : Value) (vs : List DVar) (G : List Int) (sb vb : Nat) (ov : Value) (D : List Nat) (C L : List DCond → Option Nat) (N : Nat) (h : Sc W w nv .nilFunc vs G sb vb ov D C L N) (t : DItem) (hn : t.name.size ≤ maxLen) (hop : 1 ≤ t.op ∧ t.op ≤ 24) (hlk : t.op = 3 ∨ t.op = 23 ∨ t.op = 24 → lookN vs t.name < vs.length)
  (ks : List DCond) (p : Nat) (hp : C ks = some p) :
  Calls Tryz.prog 133 #[.pointer (some ⟨sb,0,none⟩),.agg #[.int .i64 t.op,.int .i64 t.val,.string t.name],.pointer (some ⟨p,0,none⟩)] w (Ans (.bool (fitB vs t ks)) w):=by
 have hA : Below w.heap.size w (w.alloc (.cells #[.int .i64 t.op,.int .i64 t.val,.string t.name] 103)):=(Below.refl _ _).alloc (Nat.le_refl _) _
 have HA:=hide hA
 have HF:=hide (h.below hA)
 have HBX:=hide (blk_box w #[.int .i64 t.op,.int .i64 t.val,.string t.name] 103)
 clear h hA
 obtain ⟨op,vl,nm⟩:=t
 simp only at *
 obtain ⟨R,hR⟩ : ∃ R,R = fitB vs ⟨op,vl,nm⟩ ks:=⟨_,rfl⟩
 rw [← hR]
 unfold fitB at hR
 simp only at hR
 by_cases hnn : op = 3 ∨ op = 23 ∨ op = 24
 case neg =>
  have HR : Hid (R = true):=by
   rw [if_neg (by omega),if_neg (by omega),if_neg (by omega)] at hR
   exact hide hR
  have bx:=(uh HBX).cell (i:=0) (v:=.int .i64 op) rfl
  have e1 : (op == 3) = false:=by rw [beq_eq_false_iff_ne]; omega
  have e2 : (op == 23) = false:=by rw [beq_eq_false_iff_ne]; omega
  have e3 : (op == 24) = false:=by rw [beq_eq_false_iff_ne]; omega
  clear hR HF HBX hnn hlk hop
  go_enter Tryz.func133,Tryz.ntmps133
  go_wp2
  go_ret
  exact ⟨ret_bx (uh HR).symm,uh HA⟩
 obtain ⟨dk,p1,cv,hlk1,hdb,hp1⟩:=(uh HF).var nm hn (hlk hnn)
 have d3:=hdb.cell (i:=3) (v:=.pointer (some ⟨p1,0,none⟩)) rfl
 have s2:=(uh HF).sblk.cell (i:=2) (v:=.map (some vb)) rfl
 have hpb:=((uh HF).trie.blk ks p hp).1
 rcases hnn with rfl | rfl | rfl
 ·have HR : Hid (R = sameC (clkOf vs nm) ks):=hR
  have bx:=(uh HBX).cell (i:=2) (v:=.string nm) rfl
  have hlk2 : ∀ nq,(Instr.lookup 84 (.map (some vb)) (.string nm) false).run Tryz.prog ((w.alloc (.cells #[.int .i64 3,.int .i64 vl,.string nm] 103)).drewN nq) = .ok (.pointer (some ⟨dk,0,none⟩)) ((w.alloc (.cells #[.int .i64 3,.int .i64 vl,.string nm] 103)).drewN nq):=fun nq => hlk1 _ (below_dN (Below.refl _ _) nq)
  have heq : ∀ nq,(binOp .eql 88 (.pointer (some ⟨p1,0,none⟩)) (.pointer (some ⟨p,0,none⟩))).run Tryz.prog ((w.alloc (.cells #[.int .i64 3,.int .i64 vl,.string nm] 103)).drewN nq) = .ok (.bool R) ((w.alloc (.cells #[.int .i64 3,.int .i64 vl,.string nm] 103)).drewN nq):=fun nq => by
   rw [uh HR]
   exact (((uh HF).trie).below (below_dN (Below.refl _ _) nq)).eql hp1 hp
  clear hR HR HF HBX hlk hop hlk1 hdb hp1 hpb hp hn
  go_enter Tryz.func133,Tryz.ntmps133
  go_wp2_with fail
  generalize w.alloc (.cells #[.int .i64 3,.int .i64 vl,.string nm] 103) = wA at *
  go_quiet ((fail))
  go_wp2
  go_ret
  exact ⟨rfl,below_dN (uh HA) _⟩
 ·obtain ⟨wA,hwA⟩ : ∃ z,z = w.alloc (.cells #[.int .i64 23,.int .i64 vl,.string nm] 103):=⟨_,rfl⟩
  have hB : Below wA.heap.size wA (wA.alloc (.cells #[.string nm,.bool (vl == 1)] 65)):=(Below.refl _ _).alloc (Nat.le_refl _) _
  rw [← hwA] at HA HF HBX hlk1 hdb d3 s2 hpb
  have hkB : ∀ {p : Addr} {v : Value},wA.cell? p = some v → (wA.alloc (.cells #[.string nm,.bool (vl == 1)] 65)).cell? p = some v:=fun {p v} h9 => (hB.cell (World.block_lt_of_cell? wA _ h9)).trans h9
  have bx0:=(uh HBX).cell (i:=0) (v:=.int .i64 23) rfl
  have bx1:=(uh HBX).cell (i:=1) (v:=.int .i64 vl) rfl
  have bx2:=(uh HBX).cell (i:=2) (v:=.string nm) rfl
  have hbc:=blk_box wA #[.string nm,.bool (vl == 1)] 65
  rw [show wA.heap.size = w.heap.size + 1 from by rw [hwA]; simp] at hbc
  have y0:=hbc.cell (i:=0) (v:=.string nm) rfl
  have y1:=hbc.cell (i:=1) (v:=.bool (vl == 1)) rfl
  have y2:=hkB bx2
  have y3:=hkB s2
  have y4:=hkB d3
  have HBA:=hide ((uh HA).trans (hB.mono (uh HA).size))
  rcases List.eq_nil_or_concat ks with hnil | ⟨ks0,c,hks⟩
  ·have HR : Hid (R = false):=by
    rw [hnil] at hR
    exact hR
   have q0 : wA.cell? ⟨p,0,none⟩ = some (.pointer none):=hpb.cell (i:=0) (by rw [hnil]; rfl)
   have z0:=hkB q0
   subst hwA
   clear hR HF HBX hlk hop hlk1 hdb hp1 hpb hp hn hkB hbc hB q0 d3 s2
   go_enter Tryz.func133,Tryz.ntmps133
   go_wp2_with fail
   generalize w.alloc (.cells #[.int .i64 23,.int .i64 vl,.string nm] 103) = wA at *
   generalize wA.alloc (.cells #[.string nm,.bool (vl == 1)] 65) = wB at *
   go_quiet ((fail))
   go_wp2
   go_ret
   exact ⟨ret_bx (uh HR).symm,below_dN (uh HBA) _⟩
  ·rw [List.concat_eq_append] at hks
   have HRR : Hid (R = (condE c ⟨nm,vl == 1⟩ && sameC (clkOf vs nm) ks0)):=by
    rw [hks] at hR
    refine hide ?_
    rw [hR]
    simp
   rw [hks] at hp hpb
   obtain ⟨q,M,hq,_⟩:=(uh HF).trie.up _ _ _ hp
   have hcells : ctxCells C L (ks0 ++ [c]) = #[.pointer (some ⟨q,0,none⟩),.string c.name,.bool c.on,.int .i64 ((ks0 ++ [c]).length : Int),.map (L (ks0 ++ [c])),.int .i64 0,.slice none 0 0]:=by
    unfold ctxCells
    rw [last_snoc,bef_snoc,hq]
    rfl
   rw [hcells] at hpb
   have z0:=hkB (hpb.cell (i:=0) (v:=.pointer (some ⟨q,0,none⟩)) rfl)
   have z1:=hkB (hpb.cell (i:=1) (v:=.string c.name) rfl)
   have z2:=hkB (hpb.cell (i:=2) (v:=.bool c.on) rfl)
   have hlk2 : ∀ nq,(Instr.lookup 84 (.map (some vb)) (.string nm) false).run Tryz.prog ((wA.alloc (.cells #[.string nm,.bool (vl == 1)] 65)).drewN nq) = .ok (.pointer (some ⟨dk,0,none⟩)) ((wA.alloc (.cells #[.string nm,.bool (vl == 1)] 65)).drewN nq):=fun nq => hlk1 _ (below_dN hB nq)
   obtain ⟨S,hS⟩ : ∃ S,S = sameC (clkOf vs nm) ks0:=⟨_,rfl⟩
   have heq : ∀ nq,(binOp .eql 88 (.pointer (some ⟨p1,0,none⟩)) (.pointer (some ⟨q,0,none⟩))).run Tryz.prog ((wA.alloc (.cells #[.string nm,.bool (vl == 1)] 65)).drewN nq) = .ok (.bool S) ((wA.alloc (.cells #[.string nm,.bool (vl == 1)] 65)).drewN nq):=fun nq => by
    rw [hS]
    exact (((uh HF).trie).below (below_dN hB nq)).eql hp1 hq
   have HRS : Hid (R = (((c.name.toList == nm.toList) && (c.on == (vl == 1))) && S)):=by rw [hS]; exact hide (uh HRR)
   subst hwA
   clear hR HF HBX hlk hop hlk1 hdb hp1 hpb hp hn hkB hbc hB d3 s2 hks hcells hq hS HRR
   obtain ⟨cn,co⟩:=c
   simp only at z1 z2 HRS
   cases h1 : (cn.toList == nm.toList)
   ·rw [h1,Bool.false_and,Bool.false_and] at HRS
    go_enter Tryz.func133,Tryz.ntmps133
    go_wp2_with fail
    generalize w.alloc (.cells #[.int .i64 23,.int .i64 vl,.string nm] 103) = wA at *
    generalize wA.alloc (.cells #[.string nm,.bool (vl == 1)] 65) = wB at *
    go_quiet ((fail))
    all_goals
     go_wp2
     go_ret
     exact ⟨ret_bx (uh HRS).symm,below_dN (uh HBA) _⟩
   cases h2 : (co == (vl == 1))
   ·rw [h1,h2,Bool.and_false,Bool.false_and] at HRS
    go_enter Tryz.func133,Tryz.ntmps133
    go_wp2_with fail
    generalize w.alloc (.cells #[.int .i64 23,.int .i64 vl,.string nm] 103) = wA at *
    generalize wA.alloc (.cells #[.string nm,.bool (vl == 1)] 65) = wB at *
    go_quiet ((fail))
    all_goals
     go_wp2
     go_ret
     exact ⟨ret_bx (uh HRS).symm,below_dN (uh HBA) _⟩
   ·rw [h1,h2,Bool.and_true,Bool.true_and] at HRS
    go_enter Tryz.func133,Tryz.ntmps133
    go_wp2_with fail
    generalize w.alloc (.cells #[.int .i64 23,.int .i64 vl,.string nm] 103) = wA at *
    generalize wA.alloc (.cells #[.string nm,.bool (vl == 1)] 65) = wB at *
    go_quiet ((fail))
    all_goals
     go_wp2
     go_ret
     exact ⟨ret_bx (uh HRS).symm,below_dN (uh HBA) _⟩
 ·have HR : Hid (R = (sameC (clkOf vs nm) ks && decide (ks.length < 8))):=hR
  have bx:=(uh HBX).cell (i:=2) (v:=.string nm) rfl
  have q3:=hpb.cell (i:=3) (v:=.int .i64 (ks.length : Int)) rfl
  have hlk2 : ∀ nq,(Instr.lookup 84 (.map (some vb)) (.string nm) false).run Tryz.prog ((w.alloc (.cells #[.int .i64 24,.int .i64 vl,.string nm] 103)).drewN nq) = .ok (.pointer (some ⟨dk,0,none⟩)) ((w.alloc (.cells #[.int .i64 24,.int .i64 vl,.string nm] 103)).drewN nq):=fun nq => hlk1 _ (below_dN (Below.refl _ _) nq)
  obtain ⟨S,hS⟩ : ∃ S,S = sameC (clkOf vs nm) ks:=⟨_,rfl⟩
  rw [← hS] at HR
  have heq : ∀ nq,(binOp .eql 88 (.pointer (some ⟨p1,0,none⟩)) (.pointer (some ⟨p,0,none⟩))).run Tryz.prog ((w.alloc (.cells #[.int .i64 24,.int .i64 vl,.string nm] 103)).drewN nq) = .ok (.bool S) ((w.alloc (.cells #[.int .i64 24,.int .i64 vl,.string nm] 103)).drewN nq):=fun nq => by
   rw [hS]
   exact (((uh HF).trie).below (below_dN (Below.refl _ _) nq)).eql hp1 hp
  have HK8 : Hid (decide (ks.length < 8) = decide ((ks.length : Int) < 8)):=hide (by simp only [decide_eq_decide]; omega)
  rw [uh HK8] at HR
  clear hR HF HBX hlk hop hlk1 hdb hp1 hpb hp hn hS HK8
  generalize (ks.length : Int) = kl at *
  cases S
  ·rw [Bool.false_and] at HR
   go_enter Tryz.func133,Tryz.ntmps133
   go_wp2_with fail
   generalize w.alloc (.cells #[.int .i64 24,.int .i64 vl,.string nm] 103) = wA at *
   go_quiet ((fail))
   go_wp2
   go_ret
   exact ⟨ret_bx (uh HR).symm,below_dN (uh HA) _⟩
  ·rw [Bool.true_and] at HR
   go_enter Tryz.func133,Tryz.ntmps133
   go_wp2_with fail
   generalize w.alloc (.cells #[.int .i64 24,.int .i64 vl,.string nm] 103) = wA at *
   go_quiet ((fail))
   go_wp2
   go_ret
   exact ⟨ret_bx (uh HR).symm,below_dN (uh HA) _⟩
set_option maxHeartbeats 1000000 in
theorem mul64_0 (w : World) : Calls Tryz.prog 145 #[.int .u64 1,.int .u64 0] w fun e w' => e = .returned (.tuple #[.int .u64 0,.int .u64 0]) ∧ w' = w:=by
 go_enter Tryz.func145,Tryz.ntmps145
 go_wp2
 refine bodyPost_ret (v:=.tuple #[.int .u64 0,.int .u64 0]) (by kernel_rfl) rfl ?_
 exact ⟨rfl,rfl⟩
set_option maxHeartbeats 1000000 in
theorem mul_0 (w : World) : Calls Tryz.prog 143 #[.int .u64 1,.int .u64 0] w fun e w' => e = .returned (.tuple #[.int .u64 0,.int .u64 0]) ∧ w' = w:=by
 go_enter Tryz.func143,Tryz.ntmps143
 go_wp2_with fail
 refine (mul64_0 w).mono ?_
 rintro e w1 ⟨rfl,rfl⟩
 go_wp2
 refine bodyPost_ret (v:=.tuple #[.int .u64 0,.int .u64 0]) (by kernel_rfl) rfl ?_
 exact ⟨rfl,rfl⟩
set_option maxHeartbeats 1000000 in
theorem mul64_1 (w : World) : Calls Tryz.prog 145 #[.int .u64 1,.int .u64 1] w fun e w' => e = .returned (.tuple #[.int .u64 0,.int .u64 1]) ∧ w' = w:=by
 go_enter Tryz.func145,Tryz.ntmps145
 go_wp2
 refine bodyPost_ret (v:=.tuple #[.int .u64 0,.int .u64 1]) (by kernel_rfl) rfl ?_
 exact ⟨rfl,rfl⟩
set_option maxHeartbeats 1000000 in
theorem mul_1 (w : World) : Calls Tryz.prog 143 #[.int .u64 1,.int .u64 1] w fun e w' => e = .returned (.tuple #[.int .u64 0,.int .u64 1]) ∧ w' = w:=by
 go_enter Tryz.func143,Tryz.ntmps143
 go_wp2_with fail
 refine (mul64_1 w).mono ?_
 rintro e w1 ⟨rfl,rfl⟩
 go_wp2
 refine bodyPost_ret (v:=.tuple #[.int .u64 0,.int .u64 1]) (by kernel_rfl) rfl ?_
 exact ⟨rfl,rfl⟩
set_option maxHeartbeats 1000000 in
theorem mul64_2 (w : World) : Calls Tryz.prog 145 #[.int .u64 1,.int .u64 2] w fun e w' => e = .returned (.tuple #[.int .u64 0,.int .u64 2]) ∧ w' = w:=by
 go_enter Tryz.func145,Tryz.ntmps145
 go_wp2
 refine bodyPost_ret (v:=.tuple #[.int .u64 0,.int .u64 2]) (by kernel_rfl) rfl ?_
 exact ⟨rfl,rfl⟩
set_option maxHeartbeats 1000000 in
theorem mul_2 (w : World) : Calls Tryz.prog 143 #[.int .u64 1,.int .u64 2] w fun e w' => e = .returned (.tuple #[.int .u64 0,.int .u64 2]) ∧ w' = w:=by
 go_enter Tryz.func143,Tryz.ntmps143
 go_wp2_with fail
 refine (mul64_2 w).mono ?_
 rintro e w1 ⟨rfl,rfl⟩
 go_wp2
 refine bodyPost_ret (v:=.tuple #[.int .u64 0,.int .u64 2]) (by kernel_rfl) rfl ?_
 exact ⟨rfl,rfl⟩
set_option maxHeartbeats 1000000 in
theorem mul64_3 (w : World) : Calls Tryz.prog 145 #[.int .u64 1,.int .u64 3] w fun e w' => e = .returned (.tuple #[.int .u64 0,.int .u64 3]) ∧ w' = w:=by
 go_enter Tryz.func145,Tryz.ntmps145
 go_wp2
 refine bodyPost_ret (v:=.tuple #[.int .u64 0,.int .u64 3]) (by kernel_rfl) rfl ?_
 exact ⟨rfl,rfl⟩
set_option maxHeartbeats 1000000 in
theorem mul_3 (w : World) : Calls Tryz.prog 143 #[.int .u64 1,.int .u64 3] w fun e w' => e = .returned (.tuple #[.int .u64 0,.int .u64 3]) ∧ w' = w:=by
 go_enter Tryz.func143,Tryz.ntmps143
 go_wp2_with fail
 refine (mul64_3 w).mono ?_
 rintro e w1 ⟨rfl,rfl⟩
 go_wp2
 refine bodyPost_ret (v:=.tuple #[.int .u64 0,.int .u64 3]) (by kernel_rfl) rfl ?_
 exact ⟨rfl,rfl⟩
end Go.Proofs.YtfioeoihociilaaGreat
