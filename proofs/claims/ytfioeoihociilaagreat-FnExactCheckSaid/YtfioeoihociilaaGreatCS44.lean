import Derived.Test.YtfioeoihociilaaGreatImplB
namespace Go.Proofs.YtfioeoihociilaaGreat
open Go.RowKit
set_option linter.unusedSimpArgs false
set_option linter.unusedVariables false
theorem run_store_func (P : Program) (w : World) (a : Addr) (m : Mode) (f : Fn) (b c : Array Value) : (store a (.func f b c) m).run P w = stored P w a (.func f b c) m:=run_store P w a _ m rfl
attribute [local go_sem] run_store_func
theorem idx_0 (cb : Nat) (w : World) : (Instr.index 93 (.agg #[.func (.func 34) #[.pointer (some ⟨cb,0,none⟩)] #[],.func (.func 35) #[.pointer (some ⟨cb,0,none⟩)] #[],.func (.func 36) #[.pointer (some ⟨cb,0,none⟩)] #[],.func (.func 37) #[.pointer (some ⟨cb,0,none⟩)] #[],.func (.func 38) #[.pointer (some ⟨cb,0,none⟩)] #[],.func (.func 39) #[.pointer (some ⟨cb,0,none⟩)] #[]]) (.int .i64 0)).run Tryz.prog w = .ok (.func (.func 34) #[.pointer (some ⟨cb,0,none⟩)] #[]) w:=by kernel_rfl
theorem idx_1 (cb : Nat) (w : World) : (Instr.index 93 (.agg #[.func (.func 34) #[.pointer (some ⟨cb,0,none⟩)] #[],.func (.func 35) #[.pointer (some ⟨cb,0,none⟩)] #[],.func (.func 36) #[.pointer (some ⟨cb,0,none⟩)] #[],.func (.func 37) #[.pointer (some ⟨cb,0,none⟩)] #[],.func (.func 38) #[.pointer (some ⟨cb,0,none⟩)] #[],.func (.func 39) #[.pointer (some ⟨cb,0,none⟩)] #[]]) (.int .i64 1)).run Tryz.prog w = .ok (.func (.func 35) #[.pointer (some ⟨cb,0,none⟩)] #[]) w:=by kernel_rfl
theorem idx_2 (cb : Nat) (w : World) : (Instr.index 93 (.agg #[.func (.func 34) #[.pointer (some ⟨cb,0,none⟩)] #[],.func (.func 35) #[.pointer (some ⟨cb,0,none⟩)] #[],.func (.func 36) #[.pointer (some ⟨cb,0,none⟩)] #[],.func (.func 37) #[.pointer (some ⟨cb,0,none⟩)] #[],.func (.func 38) #[.pointer (some ⟨cb,0,none⟩)] #[],.func (.func 39) #[.pointer (some ⟨cb,0,none⟩)] #[]]) (.int .i64 2)).run Tryz.prog w = .ok (.func (.func 36) #[.pointer (some ⟨cb,0,none⟩)] #[]) w:=by kernel_rfl
theorem idx_3 (cb : Nat) (w : World) : (Instr.index 93 (.agg #[.func (.func 34) #[.pointer (some ⟨cb,0,none⟩)] #[],.func (.func 35) #[.pointer (some ⟨cb,0,none⟩)] #[],.func (.func 36) #[.pointer (some ⟨cb,0,none⟩)] #[],.func (.func 37) #[.pointer (some ⟨cb,0,none⟩)] #[],.func (.func 38) #[.pointer (some ⟨cb,0,none⟩)] #[],.func (.func 39) #[.pointer (some ⟨cb,0,none⟩)] #[]]) (.int .i64 3)).run Tryz.prog w = .ok (.func (.func 37) #[.pointer (some ⟨cb,0,none⟩)] #[]) w:=by kernel_rfl
theorem idx_4 (cb : Nat) (w : World) : (Instr.index 93 (.agg #[.func (.func 34) #[.pointer (some ⟨cb,0,none⟩)] #[],.func (.func 35) #[.pointer (some ⟨cb,0,none⟩)] #[],.func (.func 36) #[.pointer (some ⟨cb,0,none⟩)] #[],.func (.func 37) #[.pointer (some ⟨cb,0,none⟩)] #[],.func (.func 38) #[.pointer (some ⟨cb,0,none⟩)] #[],.func (.func 39) #[.pointer (some ⟨cb,0,none⟩)] #[]]) (.int .i64 4)).run Tryz.prog w = .ok (.func (.func 38) #[.pointer (some ⟨cb,0,none⟩)] #[]) w:=by kernel_rfl
theorem idx_5 (cb : Nat) (w : World) : (Instr.index 93 (.agg #[.func (.func 34) #[.pointer (some ⟨cb,0,none⟩)] #[],.func (.func 35) #[.pointer (some ⟨cb,0,none⟩)] #[],.func (.func 36) #[.pointer (some ⟨cb,0,none⟩)] #[],.func (.func 37) #[.pointer (some ⟨cb,0,none⟩)] #[],.func (.func 38) #[.pointer (some ⟨cb,0,none⟩)] #[],.func (.func 39) #[.pointer (some ⟨cb,0,none⟩)] #[]]) (.int .i64 5)).run Tryz.prog w = .ok (.func (.func 39) #[.pointer (some ⟨cb,0,none⟩)] #[]) w:=by kernel_rfl
structure CkS (W : World) (ns : List DNode) (i : Nat) (x : DNode) (b o cb EB sb vb : Nat) (ov : Value) (D : List Nat) (k : Nat) (wr : World) : Prop where
 ex : ∃ (G : List Int) (C L : List DCond → Option Nat) (N : Nat),Ck W wr ns i x b o cb EB G sb vb ov D C L N ∧ (k ≤ 2 → G = giv0 x ∧ N ≤ 1000000) ∧ (3 ≤ k → G = givTo x (giv0 x) x.eqs.length)
theorem CkS.old {W : World} {ns : List DNode} {i : Nat} {x : DNode} {b o cb EB sb vb : Nat} {ov : Value} {D : List Nat} {k : Nat} {wr : World} (h : CkS W ns i x b o cb EB sb vb ov D k wr) : Below W.heap.size W wr:=by
 obtain ⟨G,C,L,N,h1,_⟩:=h
 exact h1.sc.old
set_option maxRecDepth 20000 in
set_option maxHeartbeats 8000000 in
theorem check_ok (Dq : DecA) (W w : World) (ns : List DNode) (i : Nat) (x : DNode) (b o cb EB : Nat) (sb vb : Nat) (ov : Value) (D : List Nat) (C L : List DCond → Option Nat) (N : Nat) (h : Ck W w ns i x b o cb EB (giv0 x) sb vb ov D C L N) (hN : N ≤ 1000000) (hin : i ≤ ns.length) (hns : ∀ j (hj : j < ns.length),At 5 RNode W b (o + j * 5) ns[j]) (hnb : ∀ n,n ∈ ns → nodeB n = true) (hxb : nodeB x = true) (hsm : NSmall x) (hE : ∀ e,e ∈ x.eqs → e.call.size = 0 → findI ns i e.call < 0) :
  Calls Tryz.prog 15 #[.pointer (some ⟨cb,0,none⟩)] w fun e w' => e = .returned (.tuple #[.int .i64 (nodeP Dq ns i x).1,.int .i64 (nodeP Dq ns i x).2]) ∧ Below W.heap.size W w':=by
 have hn5:=((node_iff x).1 hxb).1
 have hvl : (allV x).length ≤ 500:=by
  unfold allV
  rw [List.length_append,List.length_append]
  exact hn5.2.1
 have hnm : ∀ v,v ∈ allV x → v.name.size ≤ maxLen:=fun v hv => by
  have h9:=name_len ((var_iff v).1 (node_vars hxb v hv)).1
  unfold maxLen
  omega
 have hst : ∀ {k : Nat} {wr w' : World} {G : List Int} {C L : List DCond → Option Nat} {N : Nat},Ck W wr ns i x b o cb EB G sb vb ov D C L N → Below wr.heap.size wr w' → Ck W w' ns i x b o cb EB G sb vb ov D C L N:=fun h1 h2 => h1.below h2
 have H0 : Hid (∀ wr,CkS W ns i x b o cb EB sb vb ov D 0 wr → Calls Tryz.prog 34 #[.pointer (some ⟨cb,0,none⟩)] wr fun e w' => e = .returned (.tuple #[.int .i64 (rsF Dq ns i x 0).1,.int .i64 (rsF Dq ns i x 0).2]) ∧ Hid (Below W.heap.size W w') ∧ Hid ((rsF Dq ns i x 0).1 = 0 → CkS W ns i x b o cb EB sb vb ov D 1 w')):=fun wr ⟨G,C,L,N,h1,h2,h3⟩ => by
  refine (names_ok W wr ns i x b o cb EB G sb vb ov D C L N h1 (by omega) hnm).mono ?_
  rintro e w' ⟨rfl,hb⟩
  have hc:=h1.below hb
  exact ⟨rfl,hc.sc.old,fun _ => ⟨G,C,L,N,hc,fun _ => h2 (by omega),fun h9 => by omega⟩⟩
 have H1 : Hid (∀ wr,CkS W ns i x b o cb EB sb vb ov D 1 wr → Calls Tryz.prog 35 #[.pointer (some ⟨cb,0,none⟩)] wr fun e w' => e = .returned (.tuple #[.int .i64 (rsF Dq ns i x 1).1,.int .i64 (rsF Dq ns i x 1).2]) ∧ Hid (Below W.heap.size W w') ∧ Hid ((rsF Dq ns i x 1).1 = 0 → CkS W ns i x b o cb EB sb vb ov D 2 w')):=fun wr ⟨G,C,L,N,h1,h2,h3⟩ => by
  refine (clocks_ok W wr ns i x b o cb EB G sb vb ov D C L N h1 (by omega)).mono ?_
  rintro e w' ⟨rfl,hb⟩
  have hc:=h1.below hb
  exact ⟨rfl,hc.sc.old,fun _ => ⟨G,C,L,N,hc,fun _ => h2 (by omega),fun h9 => by omega⟩⟩
 have H2 : Hid (∀ wr,CkS W ns i x b o cb EB sb vb ov D 2 wr → Calls Tryz.prog 36 #[.pointer (some ⟨cb,0,none⟩)] wr fun e w' => e = .returned (.tuple #[.int .i64 (rsF Dq ns i x 2).1,.int .i64 (rsF Dq ns i x 2).2]) ∧ Hid (Below W.heap.size W w') ∧ Hid ((rsF Dq ns i x 2).1 = 0 → CkS W ns i x b o cb EB sb vb ov D 3 w')):=fun wr ⟨G,C,L,N,h1,h2,h3⟩ => by
  obtain ⟨rfl,hN9⟩:=h2 (by omega)
  refine (equations_ok W wr ns i x b o cb EB (giv0 x) sb vb ov D C L N h1 (giv0_len x) hin hns hnb hxb (by omega)).mono ?_
  rintro e w' ⟨rfl,G',C',L',N',hc,_,hg⟩
  exact ⟨rfl,hc.sc.old,fun hz => ⟨G',C',L',N',hc,fun h9 => by omega,fun _ => hg hz⟩⟩
 have H3 : Hid (∀ wr,CkS W ns i x b o cb EB sb vb ov D 3 wr → Calls Tryz.prog 37 #[.pointer (some ⟨cb,0,none⟩)] wr fun e w' => e = .returned (.tuple #[.int .i64 (rsF Dq ns i x 3).1,.int .i64 (rsF Dq ns i x 3).2]) ∧ Hid (Below W.heap.size W w') ∧ Hid ((rsF Dq ns i x 3).1 = 0 → CkS W ns i x b o cb EB sb vb ov D 4 w')):=fun wr ⟨G,C,L,N,h1,h2,h3⟩ => by
  have hG:=h3 (by omega)
  subst hG
  refine (missing_ok W wr ns i x b o cb EB _ sb vb ov D C L N h1 (by omega)).mono ?_
  rintro e w' ⟨rfl,hb⟩
  have hc:=h1.below hb
  exact ⟨rfl,hc.sc.old,fun _ => ⟨_,C,L,N,hc,fun h9 => by omega,fun _ => rfl⟩⟩
 have H4 : Hid (∀ wr,CkS W ns i x b o cb EB sb vb ov D 4 wr → LpOK x (givTo x (giv0 x) x.eqs.length) → Calls Tryz.prog 38 #[.pointer (some ⟨cb,0,none⟩)] wr fun e w' => e = .returned (.tuple #[.int .i64 (rsF Dq ns i x 4).1,.int .i64 (rsF Dq ns i x 4).2]) ∧ Hid (Below W.heap.size W w') ∧ Hid ((rsF Dq ns i x 4).1 = 0 → CkS W ns i x b o cb EB sb vb ov D 5 w')):=fun wr ⟨G,C,L,N,h1,h2,h3⟩ hok => by
  have hG:=h3 (by omega)
  subst hG
  refine (cycle_ok Dq W wr ns i x b o cb EB _ sb vb ov D C L N h1 hok).mono ?_
  rintro e w' ⟨rfl,hb⟩
  have hc:=h1.below hb
  exact ⟨rfl,hc.sc.old,fun _ => ⟨_,C,L,N,hc,fun h9 => by omega,fun _ => rfl⟩⟩
 have H5 : Hid (∀ wr,CkS W ns i x b o cb EB sb vb ov D 5 wr → Calls Tryz.prog 39 #[.pointer (some ⟨cb,0,none⟩)] wr fun e w' => e = .returned (.tuple #[.int .i64 (rsF Dq ns i x 5).1,.int .i64 (rsF Dq ns i x 5).2]) ∧ Hid (Below W.heap.size W w') ∧ Hid ((rsF Dq ns i x 5).1 = 0 → CkS W ns i x b o cb EB sb vb ov D 6 w')):=fun wr ⟨G,C,L,N,h1,h2,h3⟩ => by
  have hG:=h3 (by omega)
  subst hG
  refine (bounds_ok W wr ns i x b o cb EB _ sb vb ov D C L N h1 hxb hsm hE).mono ?_
  rintro e w' ⟨rfl,hb⟩
  have hc:=h1.below hb
  exact ⟨rfl,hc.sc.old,fun _ => ⟨_,C,L,N,hc,fun h9 => by omega,fun _ => rfl⟩⟩
 have HLP : Hid ((rsF Dq ns i x 1).1 = 0 → (rsF Dq ns i x 2).1 = 0 → LpOK x (givTo x (giv0 x) x.eqs.length)):=fun h1 h2 => lp_ok hnb hxb (first_no (clocks_zero h1)) (eqs_zero h2)
 have hAl : Below w.heap.size w (w.alloc (.cells #[.func (.func 34) #[.pointer (some ⟨cb,0,none⟩)] #[],.func (.func 35) #[.pointer (some ⟨cb,0,none⟩)] #[],.func (.func 36) #[.pointer (some ⟨cb,0,none⟩)] #[],.func (.func 37) #[.pointer (some ⟨cb,0,none⟩)] #[],.func (.func 38) #[.pointer (some ⟨cb,0,none⟩)] #[],.func (.func 39) #[.pointer (some ⟨cb,0,none⟩)] #[]] 93)):=(Below.refl _ _).alloc (Nat.le_refl _) _
 have HS0 : Hid (CkS W ns i x b o cb EB sb vb ov D 0 (w.alloc (.cells #[.func (.func 34) #[.pointer (some ⟨cb,0,none⟩)] #[],.func (.func 35) #[.pointer (some ⟨cb,0,none⟩)] #[],.func (.func 36) #[.pointer (some ⟨cb,0,none⟩)] #[],.func (.func 37) #[.pointer (some ⟨cb,0,none⟩)] #[],.func (.func 38) #[.pointer (some ⟨cb,0,none⟩)] #[],.func (.func 39) #[.pointer (some ⟨cb,0,none⟩)] #[]] 93))):=hide ⟨giv0 x,C,L,N,h.below hAl,fun _ => ⟨rfl,hN⟩,fun h9 => by omega⟩
 have HRS : Hid (∀ k,k < 6 → (rsF Dq ns i x k).1 ≠ 0 → (∀ j,j < k → (rsF Dq ns i x j).1 = 0) → nodeP Dq ns i x = rsF Dq ns i x k):=fun k h1 h2 h3 => by
  unfold nodeP
  rw [first_hit h1 (by simpa using h2) (fun j hj => by simpa using h3 j hj)]
 have HRN : Hid ((∀ j,j < 6 → (rsF Dq ns i x j).1 = 0) → nodeP Dq ns i x = (0,0)):=fun h3 => by
  unfold nodeP
  rw [first_none (fun j hj => by simpa using h3 j hj)]
 obtain ⟨PO,hPO⟩ : ∃ PO : Ending → World → Prop,PO = fun e w' => e = .returned (.tuple #[.int .i64 (nodeP Dq ns i x).1,.int .i64 (nodeP Dq ns i x).2]) ∧ Below W.heap.size W w':=⟨_,rfl⟩
 rw [← hPO]
 have HPO:=hide hPO
 generalize hrs : rsF Dq ns i x = rs at *
 clear hPO h hns hnb hxb hsm hE hnm hst hAl hrs hn5 hvl hin
 go_enter Tryz.func15,Tryz.ntmps15
 go_wp2
 go_loopg [23] 6 (fun gm iv wr => ∃ k : Nat,k ≤ 6 ∧ gm = 6 - k ∧ iv = .int .i64 k ∧ CkS W ns i x b o cb EB sb vb ov D k wr ∧ ∀ j,j < k → (rs j).1 = 0)
 case atStart => exact ⟨0,Nat.zero_le _,rfl,rfl,uh HS0,fun j hj => absurd hj (Nat.not_lt_zero _)⟩
 case round =>
  obtain ⟨k,hk,hg,rfl,hst,hno⟩:=hrel
  rename World => wr
  have HG:=hide hg
  have HST:=hide hst
  have HNO:=hide hno
  clear hg hno HS0
  by_cases h6 : k = 6
  ·subst h6
   have HFIN : Hid (PO (.returned (.tuple #[.int .i64 0,.int .i64 0])) wr):=by
    rw [uh HPO]
    refine hide ⟨?_,hst.old⟩
    rw [uh HRN (uh HNO)]
   clear hst
   go_wp2
   exact uh HFIN
  by_cases h0 : k = 0
  ·subst h0
   have hix:=idx_0 cb wr
   have HC:=hide (uh H0 wr hst)
   have HSX:=hide (uh HRS 0 (by decide))
   have HNX : Hid ((rs 0).1 = 0 → ∀ j,j < 1 → (rs j).1 = 0):=fun h9 j hj => by
    by_cases c : j = 0
    ·rw [c]; exact h9
    ·exact uh HNO j (by omega)
   clear H0 H1 H2 H3 H4 H5 HLP HRS HRN hst hk
   generalize rs 0 = r at HC HSX HNX
   obtain ⟨r1,r2⟩:=r
   simp only at HC HSX HNX
   by_cases hz : r1 = 0
   ·have HN2:=hide (uh HNX hz)
    subst hz
    clear HSX HNX
    go_wp2_with fail
    refine (uh HC).mono ?_
    rintro e9 w3 ⟨rfl,HB3,HS3⟩
    have HS4:=hide (uh HS3 (by first | trivial | rfl))
    clear HC HS3
    go_wp2
    go_roundg (6 - 1)
    case measure =>
     have h9:=uh HG
     omega
    case rel => exact ⟨1,by decide,rfl,by first | rfl | go_num,uh HS4,uh HN2⟩
   ·have HE9:=hide (uh HSX hz (uh HNO))
    have hne : (r1 == 0) = false:=by rw [beq_eq_false_iff_ne]; exact hz
    have hnn : (r1 != 0) = true:=by rw [bne_iff_ne]; exact hz
    clear HSX HNX hz
    go_wp2_with fail
    refine (uh HC).mono ?_
    rintro e9 w3 ⟨rfl,HB3,HS3⟩
    have HFIN : Hid (PO (.returned (.tuple #[.int .i64 r1,.int .i64 r2])) w3):=by
     rw [uh HPO]
     refine hide ⟨?_,uh HB3⟩
     rw [uh HE9]
    clear HC HS3 HB3
    go_wp2
    exact uh HFIN
  by_cases h1 : k = 1
  ·subst h1
   have hix:=idx_1 cb wr
   have HC:=hide (uh H1 wr hst)
   have HSX:=hide (uh HRS 1 (by decide))
   have HNX : Hid ((rs 1).1 = 0 → ∀ j,j < 2 → (rs j).1 = 0):=fun h9 j hj => by
    by_cases c : j = 1
    ·rw [c]; exact h9
    ·exact uh HNO j (by omega)
   clear H0 H1 H2 H3 H4 H5 HLP HRS HRN hst hk
   generalize rs 1 = r at HC HSX HNX
   obtain ⟨r1,r2⟩:=r
   simp only at HC HSX HNX
   by_cases hz : r1 = 0
   ·have HN2:=hide (uh HNX hz)
    subst hz
    clear HSX HNX
    go_wp2_with fail
    refine (uh HC).mono ?_
    rintro e9 w3 ⟨rfl,HB3,HS3⟩
    have HS4:=hide (uh HS3 (by first | trivial | rfl))
    clear HC HS3
    go_wp2
    go_roundg (6 - 2)
    case measure =>
     have h9:=uh HG
     omega
    case rel => exact ⟨2,by decide,rfl,by first | rfl | go_num,uh HS4,uh HN2⟩
   ·have HE9:=hide (uh HSX hz (uh HNO))
    have hne : (r1 == 0) = false:=by rw [beq_eq_false_iff_ne]; exact hz
    have hnn : (r1 != 0) = true:=by rw [bne_iff_ne]; exact hz
    clear HSX HNX hz
    go_wp2_with fail
    refine (uh HC).mono ?_
    rintro e9 w3 ⟨rfl,HB3,HS3⟩
    have HFIN : Hid (PO (.returned (.tuple #[.int .i64 r1,.int .i64 r2])) w3):=by
     rw [uh HPO]
     refine hide ⟨?_,uh HB3⟩
     rw [uh HE9]
    clear HC HS3 HB3
    go_wp2
    exact uh HFIN
  by_cases h2 : k = 2
  ·subst h2
   have hix:=idx_2 cb wr
   have HC:=hide (uh H2 wr hst)
   have HSX:=hide (uh HRS 2 (by decide))
   have HNX : Hid ((rs 2).1 = 0 → ∀ j,j < 3 → (rs j).1 = 0):=fun h9 j hj => by
    by_cases c : j = 2
    ·rw [c]; exact h9
    ·exact uh HNO j (by omega)
   clear H0 H1 H2 H3 H4 H5 HLP HRS HRN hst hk
   generalize rs 2 = r at HC HSX HNX
   obtain ⟨r1,r2⟩:=r
   simp only at HC HSX HNX
   by_cases hz : r1 = 0
   ·have HN2:=hide (uh HNX hz)
    subst hz
    clear HSX HNX
    go_wp2_with fail
    refine (uh HC).mono ?_
    rintro e9 w3 ⟨rfl,HB3,HS3⟩
    have HS4:=hide (uh HS3 (by first | trivial | rfl))
    clear HC HS3
    go_wp2
    go_roundg (6 - 3)
    case measure =>
     have h9:=uh HG
     omega
    case rel => exact ⟨3,by decide,rfl,by first | rfl | go_num,uh HS4,uh HN2⟩
   ·have HE9:=hide (uh HSX hz (uh HNO))
    have hne : (r1 == 0) = false:=by rw [beq_eq_false_iff_ne]; exact hz
    have hnn : (r1 != 0) = true:=by rw [bne_iff_ne]; exact hz
    clear HSX HNX hz
    go_wp2_with fail
    refine (uh HC).mono ?_
    rintro e9 w3 ⟨rfl,HB3,HS3⟩
    have HFIN : Hid (PO (.returned (.tuple #[.int .i64 r1,.int .i64 r2])) w3):=by
     rw [uh HPO]
     refine hide ⟨?_,uh HB3⟩
     rw [uh HE9]
    clear HC HS3 HB3
    go_wp2
    exact uh HFIN
  by_cases h3 : k = 3
  ·subst h3
   have hix:=idx_3 cb wr
   have HC:=hide (uh H3 wr hst)
   have HSX:=hide (uh HRS 3 (by decide))
   have HNX : Hid ((rs 3).1 = 0 → ∀ j,j < 4 → (rs j).1 = 0):=fun h9 j hj => by
    by_cases c : j = 3
    ·rw [c]; exact h9
    ·exact uh HNO j (by omega)
   clear H0 H1 H2 H3 H4 H5 HLP HRS HRN hst hk
   generalize rs 3 = r at HC HSX HNX
   obtain ⟨r1,r2⟩:=r
   simp only at HC HSX HNX
   by_cases hz : r1 = 0
   ·have HN2:=hide (uh HNX hz)
    subst hz
    clear HSX HNX
    go_wp2_with fail
    refine (uh HC).mono ?_
    rintro e9 w3 ⟨rfl,HB3,HS3⟩
    have HS4:=hide (uh HS3 (by first | trivial | rfl))
    clear HC HS3
    go_wp2
    go_roundg (6 - 4)
    case measure =>
     have h9:=uh HG
     omega
    case rel => exact ⟨4,by decide,rfl,by first | rfl | go_num,uh HS4,uh HN2⟩
   ·have HE9:=hide (uh HSX hz (uh HNO))
    have hne : (r1 == 0) = false:=by rw [beq_eq_false_iff_ne]; exact hz
    have hnn : (r1 != 0) = true:=by rw [bne_iff_ne]; exact hz
    clear HSX HNX hz
    go_wp2_with fail
    refine (uh HC).mono ?_
    rintro e9 w3 ⟨rfl,HB3,HS3⟩
    have HFIN : Hid (PO (.returned (.tuple #[.int .i64 r1,.int .i64 r2])) w3):=by
     rw [uh HPO]
     refine hide ⟨?_,uh HB3⟩
     rw [uh HE9]
    clear HC HS3 HB3
    go_wp2
    exact uh HFIN
  by_cases h4 : k = 4
  ·subst h4
   have hix:=idx_4 cb wr
   have HC:=hide (uh H4 wr hst (uh HLP (uh HNO 1 (by decide)) (uh HNO 2 (by decide))))
   have HSX:=hide (uh HRS 4 (by decide))
   have HNX : Hid ((rs 4).1 = 0 → ∀ j,j < 5 → (rs j).1 = 0):=fun h9 j hj => by
    by_cases c : j = 4
    ·rw [c]; exact h9
    ·exact uh HNO j (by omega)
   clear H0 H1 H2 H3 H4 H5 HLP HRS HRN hst hk
   generalize rs 4 = r at HC HSX HNX
   obtain ⟨r1,r2⟩:=r
   simp only at HC HSX HNX
   by_cases hz : r1 = 0
   ·have HN2:=hide (uh HNX hz)
    subst hz
    clear HSX HNX
    go_wp2_with fail
    refine (uh HC).mono ?_
    rintro e9 w3 ⟨rfl,HB3,HS3⟩
    have HS4:=hide (uh HS3 (by first | trivial | rfl))
    clear HC HS3
    go_wp2
    go_roundg (6 - 5)
    case measure =>
     have h9:=uh HG
     omega
    case rel => exact ⟨5,by decide,rfl,by first | rfl | go_num,uh HS4,uh HN2⟩
   ·have HE9:=hide (uh HSX hz (uh HNO))
    have hne : (r1 == 0) = false:=by rw [beq_eq_false_iff_ne]; exact hz
    have hnn : (r1 != 0) = true:=by rw [bne_iff_ne]; exact hz
    clear HSX HNX hz
    go_wp2_with fail
    refine (uh HC).mono ?_
    rintro e9 w3 ⟨rfl,HB3,HS3⟩
    have HFIN : Hid (PO (.returned (.tuple #[.int .i64 r1,.int .i64 r2])) w3):=by
     rw [uh HPO]
     refine hide ⟨?_,uh HB3⟩
     rw [uh HE9]
    clear HC HS3 HB3
    go_wp2
    exact uh HFIN
  by_cases h5 : k = 5
  ·subst h5
   have hix:=idx_5 cb wr
   have HC:=hide (uh H5 wr hst)
   have HSX:=hide (uh HRS 5 (by decide))
   have HNX : Hid ((rs 5).1 = 0 → ∀ j,j < 6 → (rs j).1 = 0):=fun h9 j hj => by
    by_cases c : j = 5
    ·rw [c]; exact h9
    ·exact uh HNO j (by omega)
   clear H0 H1 H2 H3 H4 H5 HLP HRS HRN hst hk
   generalize rs 5 = r at HC HSX HNX
   obtain ⟨r1,r2⟩:=r
   simp only at HC HSX HNX
   by_cases hz : r1 = 0
   ·have HN2:=hide (uh HNX hz)
    subst hz
    clear HSX HNX
    go_wp2_with fail
    refine (uh HC).mono ?_
    rintro e9 w3 ⟨rfl,HB3,HS3⟩
    have HS4:=hide (uh HS3 (by first | trivial | rfl))
    clear HC HS3
    go_wp2
    go_roundg (6 - 6)
    case measure =>
     have h9:=uh HG
     omega
    case rel => exact ⟨6,by decide,rfl,by first | rfl | go_num,uh HS4,uh HN2⟩
   ·have HE9:=hide (uh HSX hz (uh HNO))
    have hne : (r1 == 0) = false:=by rw [beq_eq_false_iff_ne]; exact hz
    have hnn : (r1 != 0) = true:=by rw [bne_iff_ne]; exact hz
    clear HSX HNX hz
    go_wp2_with fail
    refine (uh HC).mono ?_
    rintro e9 w3 ⟨rfl,HB3,HS3⟩
    have HFIN : Hid (PO (.returned (.tuple #[.int .i64 r1,.int .i64 r2])) w3):=by
     rw [uh HPO]
     refine hide ⟨?_,uh HB3⟩
     rw [uh HE9]
    clear HC HS3 HB3
    go_wp2
    exact uh HFIN
  omega
end Go.Proofs.YtfioeoihociilaaGreat
