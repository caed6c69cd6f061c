import Derived.Test.YtjjldnkhadakcaaGreatMI7
namespace Go.Proofs.YtjjldnkhadakcaaGreat
open Go.RowKit
set_option linter.unusedSimpArgs false
set_option linter.unusedVariables false
def RIf (_ : Nat) (_ : World) (cs : List Value) (x : TypeId × Nat) : Prop:=cs = [.iface x.1 (.pointer (some ⟨x.2,0,none⟩))]
theorem RIf_kept : KeptBy RIf:=fun _ _ _ _ _ _ h => h
def NodesAt (X : BD) (P : Nat → Prop) (w : World) : PL → List (TypeId × Nat) → Prop
 | ⟨none⟩,ns => ns = []
 | ⟨some (s, r, none)⟩,ns => ∃ x ns',ns = x :: ns' ∧ P x.2 ∧ LeafAt X P w x s ∧ NodesAt X P w r ns'
 | ⟨some (s, r, some (_, a, _, b))⟩,ns => ∃ x ns' fv sv na nb,ns = x :: ns' ∧ P x.2 ∧ x.1 = 146 ∧ BlkAt w x.2 148 #[.int .i64 (1 + maxS (a.cost (knOf X.k.insts X.known) 0) (b.cost (knOf X.k.insts X.known) 0)),.int .i64 (placeI (varsOf X.k) s.name),fv,sv] ∧ (SlAt 1 16 RIf 0 w fv na ∧ ∀ b,fv.ownBlock = some b → P b) ∧ NodesAt X P w a na ∧ (SlAt 1 16 RIf 0 w sv nb ∧ ∀ b,sv.ownBlock = some b → P b) ∧ NodesAt X P w b nb ∧ NodesAt X P w r ns'
theorem RIf_any : ∀ (w w' : World) (cs : List Value) (x : TypeId × Nat),RIf 0 w cs x → RIf 0 w' cs x:=fun _ _ _ _ h => h
theorem NodesAt.keptP {X : BD} {P : Nat → Prop} {w w' : World} (hk : KeptP P w w') : ∀ (t : PL) (ns : List (TypeId × Nat)),NodesAt X P w t ns → NodesAt X P w' t ns:=by
 intro t
 induction t using PL.ind with
 | nil => intro ns h; exact h
 | leaf s r ih =>
  rintro ns ⟨x,ns',h1,h2,h3,h4⟩
  exact ⟨x,ns',h1,h2,h3.keptP h2 hk,ih _ h4⟩
 | br s a el b en r iha ihb ihr =>
  rintro ns ⟨x,ns',fv,sv,na,nb,h1,h2,h3,h4,⟨h5,g5⟩,h6,⟨h7,g7⟩,h8,h9⟩
  exact ⟨x,ns',fv,sv,na,nb,h1,h2,h3,h4.keptP hk h2,⟨h5.keptP RIf_any hk g5,g5⟩,iha _ h6,⟨h7.keptP RIf_any hk g7,g7⟩,ihb _ h8,ihr _ h9⟩
theorem NodesAt.mono {X : BD} {P Q : Nat → Prop} {w : World} (hq : ∀ b,P b → Q b) : ∀ (t : PL) (ns : List (TypeId × Nat)),NodesAt X P w t ns → NodesAt X Q w t ns:=by
 intro t
 induction t using PL.ind with
 | nil => intro ns h; exact h
 | leaf s r ih =>
  rintro ns ⟨x,ns',h1,h2,h3,h4⟩
  exact ⟨x,ns',h1,hq _ h2,h3.mono hq,ih _ h4⟩
 | br s a el b en r iha ihb ihr =>
  rintro ns ⟨x,ns',fv,sv,na,nb,h1,h2,h3,h4,⟨h5,g5⟩,h6,⟨h7,g7⟩,h8,h9⟩
  exact ⟨x,ns',fv,sv,na,nb,h1,hq _ h2,h3,h4,⟨h5,fun b hb => hq b (g5 b hb)⟩,iha _ h6,⟨h7,fun b hb => hq b (g7 b hb)⟩,ihb _ h8,ihr _ h9⟩
def costOf (kn : DStm → Int) : PL → Int
 | ⟨none⟩ => 0
 | ⟨some (s, _, none)⟩ => if s.kind = 3 then 1 + kn s else 1
 | ⟨some (_, _, some (_, a, _, b))⟩ => 1 + maxS (a.cost kn 0) (b.cost kn 0)
def tailP : PL → PL
 | ⟨none⟩ => .nil
 | ⟨some (_, r, none)⟩ => r
 | ⟨some (_, r, some (_, _, _, _))⟩ => r
theorem cost_step (kn : DStm → Int) (t : PL) (h : t ≠ .nil) (s : Int) : t.cost kn s = (tailP t).cost kn (capS (s + costOf kn t)):=by
 cases t using PL.inv with
 | nil => exact absurd rfl h
 | leaf _ _ => rfl
 | br _ _ _ _ _ _ => rfl
theorem NodesAt.head {X : BD} {P : Nat → Prop} {w : World} {t : PL} {x : TypeId × Nat} {ns : List (TypeId × Nat)} (h : NodesAt X P w t (x :: ns)) : t ≠ .nil ∧ NodesAt X P w (tailP t) ns ∧ w.cell? ⟨x.2,0,none⟩ = some (.int .i64 (costOf (knOf X.k.insts X.known) t)) ∧ (x.1 = 135 ∨ x.1 = 141 ∨ x.1 = 144 ∨ x.1 = 146):=by
 cases t using PL.inv with
 | nil => cases h
 | leaf s r =>
  obtain ⟨x',ns',h1,h2,h3,h4⟩:=h
  simp only [List.cons.injEq] at h1
  obtain ⟨rfl,rfl⟩:=h1
  refine ⟨by simp,h4,?_,?_⟩
  ·rcases h3 with ⟨a,b,cv,c,d⟩ | ⟨a,b,cv,c,d⟩ | ⟨a,b,ov,av,c,d⟩
   ·have:=c.cell (i:=0) (v:=.int .i64 1) rfl
    simp only [costOf]
    rw [if_neg (by omega)]
    exact this
   ·have:=c.cell (i:=0) (v:=.int .i64 1) rfl
    simp only [costOf]
    rw [if_neg (by omega)]
    exact this
   ·have:=c.cell (i:=0) (v:=.int .i64 (1 + knOf X.k.insts X.known s)) rfl
    simp only [costOf]
    rw [if_pos a]
    exact this
  ·rcases h3 with ⟨a,b,_⟩ | ⟨a,b,_⟩ | ⟨a,b,_⟩
   ·exact Or.inl b
   ·exact Or.inr (Or.inl b)
   ·exact Or.inr (Or.inr (Or.inl b))
 | br s a el b en r =>
  obtain ⟨x',ns',fv,sv,na,nb,h1,h2,h3,h4,h5,h6,h7,h8,h9⟩:=h
  simp only [List.cons.injEq] at h1
  obtain ⟨rfl,rfl⟩:=h1
  exact ⟨by simp,h9,h4.cell (i:=0) rfl,Or.inr (Or.inr (Or.inr h3))⟩
theorem NodesAt.none {X : BD} {P : Nat → Prop} {w : World} {t : PL} (h : NodesAt X P w t []) : t = .nil:=by
 cases t using PL.inv with
 | nil => rfl
 | leaf s r => obtain ⟨x,ns',h1,_⟩:=h; cases h1
 | br s a el b en r => obtain ⟨x,ns',fv,sv,na,nb,h1,_⟩:=h; cases h1
theorem cost_bd (kn : DStm → Int) (hk : ∀ s,0 ≤ kn s ∧ kn s ≤ 400001) (t : PL) : ∀ s : Int,0 ≤ s → s ≤ 400001 → 0 ≤ t.cost kn s ∧ t.cost kn s ≤ 400001:=by
 induction t using PL.ind with
 | nil => intro s h1 h2; exact ⟨h1,h2⟩
 | leaf st r ih =>
  intro s h1 h2
  have:=hk st
  have hc:=capS_bd (s + (if st.kind = 3 then 1 + kn st else 1)) (by split <;> omega)
  exact ih _ hc.1 hc.2
 | br st a el b en r iha ihb ihr =>
  intro s h1 h2
  have ha:=iha 0 (by omega) (by omega)
  have hb:=ihb 0 (by omega) (by omega)
  have hm:=maxS_bd _ _ _ ha hb
  have hc:=capS_bd (s + (1 + maxS (a.cost kn 0) (b.cost kn 0))) (by omega)
  exact ihr _ hc.1 hc.2
theorem costOf_bd (kn : DStm → Int) (hk : ∀ s,0 ≤ kn s ∧ kn s ≤ 400001) (t : PL) : 0 ≤ costOf kn t ∧ costOf kn t ≤ 400002:=by
 cases t using PL.inv with
 | nil => simp [costOf]
 | leaf st r =>
  have:=hk st
  simp only [costOf]
  split <;> omega
 | br st a el b en r =>
  have ha:=cost_bd kn hk a 0 (by omega) (by omega)
  have hb:=cost_bd kn hk b 0 (by omega) (by omega)
  have hm:=maxS_bd _ _ _ ha hb
  simp only [costOf]
  omega
theorem most_setting (n nb : Nat) (ck : Int) (w : World) (h : w.cell? ⟨nb, 0, none⟩ = some (.int .i64 ck)) : (method (n + 1) 135 (.pointer (some ⟨nb, 0, none⟩)) "loop.example/s0043/impl.most").run Tryz.prog w = .ok (171, .agg #[.int .i64 ck]) w := by
 have h1 : ((Tryz.prog.info? 135).map fun i => (i.methods.find? (·.name == "loop.example/s0043/impl.most")).map fun m => (m.path, m.func)) = some (some (#[⟨140, 0, true⟩], some (171, false))) := by kernel_rfl
 obtain ⟨i,hi,h2⟩:=Option.map_eq_some_iff.1 h1
 obtain ⟨m,hm,h3⟩:=Option.map_eq_some_iff.1 h2
 simp only [Prod.mk.injEq] at h3
 obtain ⟨hp,hf⟩:=h3
 unfold method
 simp [typeInfo,hi,hm,hp,hf,follow,Place.get,asAddr,fieldPlace,receiverAt,go_sem,h,Result.andThen]
theorem most_saving (n nb : Nat) (ck : Int) (w : World) (h : w.cell? ⟨nb, 0, none⟩ = some (.int .i64 ck)) : (method (n + 1) 141 (.pointer (some ⟨nb, 0, none⟩)) "loop.example/s0043/impl.most").run Tryz.prog w = .ok (171, .agg #[.int .i64 ck]) w := by
 have h1 : ((Tryz.prog.info? 141).map fun i => (i.methods.find? (·.name == "loop.example/s0043/impl.most")).map fun m => (m.path, m.func)) = some (some (#[⟨143, 0, true⟩], some (171, false))) := by kernel_rfl
 obtain ⟨i,hi,h2⟩:=Option.map_eq_some_iff.1 h1
 obtain ⟨m,hm,h3⟩:=Option.map_eq_some_iff.1 h2
 simp only [Prod.mk.injEq] at h3
 obtain ⟨hp,hf⟩:=h3
 unfold method
 simp [typeInfo,hi,hm,hp,hf,follow,Place.get,asAddr,fieldPlace,receiverAt,go_sem,h,Result.andThen]
theorem most_calling (n nb : Nat) (ck : Int) (w : World) (h : w.cell? ⟨nb, 0, none⟩ = some (.int .i64 ck)) : (method (n + 1) 144 (.pointer (some ⟨nb, 0, none⟩)) "loop.example/s0043/impl.most").run Tryz.prog w = .ok (171, .agg #[.int .i64 ck]) w := by
 have h1 : ((Tryz.prog.info? 144).map fun i => (i.methods.find? (·.name == "loop.example/s0043/impl.most")).map fun m => (m.path, m.func)) = some (some (#[⟨179, 0, true⟩], some (171, false))) := by kernel_rfl
 obtain ⟨i,hi,h2⟩:=Option.map_eq_some_iff.1 h1
 obtain ⟨m,hm,h3⟩:=Option.map_eq_some_iff.1 h2
 simp only [Prod.mk.injEq] at h3
 obtain ⟨hp,hf⟩:=h3
 unfold method
 simp [typeInfo,hi,hm,hp,hf,follow,Place.get,asAddr,fieldPlace,receiverAt,go_sem,h,Result.andThen]
theorem most_branching (n nb : Nat) (ck : Int) (w : World) (h : w.cell? ⟨nb, 0, none⟩ = some (.int .i64 ck)) : (method (n + 1) 146 (.pointer (some ⟨nb, 0, none⟩)) "loop.example/s0043/impl.most").run Tryz.prog w = .ok (171, .agg #[.int .i64 ck]) w := by
 have h1 : ((Tryz.prog.info? 146).map fun i => (i.methods.find? (·.name == "loop.example/s0043/impl.most")).map fun m => (m.path, m.func)) = some (some (#[⟨148, 0, true⟩], some (171, false))) := by kernel_rfl
 obtain ⟨i,hi,h2⟩:=Option.map_eq_some_iff.1 h1
 obtain ⟨m,hm,h3⟩:=Option.map_eq_some_iff.1 h2
 simp only [Prod.mk.injEq] at h3
 obtain ⟨hp,hf⟩:=h3
 unfold method
 simp [typeInfo,hi,hm,hp,hf,follow,Place.get,asAddr,fieldPlace,receiverAt,go_sem,h,Result.andThen]
theorem capS_le (x : Int) (h : x ≤ 400001) : capS x = x:=by unfold capS; split <;> omega
theorem capS_gt (x : Int) (h : 400001 < x) : capS x = 400001:=by unfold capS; rw [if_pos (by omega)]
set_option maxHeartbeats 2000000 in
theorem mostOf_ok (X : BD) (P : Nat → Prop) (lo : Nat) (t : PL) (v : Value) (nodes : List (TypeId × Nat)) (w : World) (hv : SlAt 1 16 RIf lo w v nodes) (hN : NodesAt X P w t nodes) (hk : ∀ s,0 ≤ knOf X.k.insts X.known s ∧ knOf X.k.insts X.known s ≤ 400001) :
  Calls Tryz.prog 105 #[v] w (Ans (.int .i64 (t.cost (knOf X.k.insts X.known) 0)) w):=by
 obtain ⟨a,cap,rfl,_,hn,hx⟩:=hv
 unfold Len at hn
 have HX:=hide hx
 have HN:=hide hN
 have HK:=hide hk
 generalize hkn : knOf X.k.insts X.known = kn at *
 have HKN:=hide hkn
 clear hx hN hk hkn
 go_enter Tryz.func105,Tryz.ntmps105
 go_wp2
 go_loopg [3,8] nodes.length (fun g sv i wr => ∃ (k : Nat) (tk : PL) (sum : Int),k ≤ nodes.length ∧ g = nodes.length - k ∧ i = .int .i64 k ∧ sv = .int .i64 sum ∧ 0 ≤ sum ∧ sum ≤ 400001 ∧ t.cost kn 0 = tk.cost kn sum ∧ NodesAt X P w tk (nodes.drop k) ∧ Below w.heap.size w wr)
 case atStart => exact ⟨0,t,0,Nat.zero_le _,by omega,rfl,rfl,by omega,by omega,rfl,by simpa using uh HN,Below.refl _ _⟩
 case round =>
  obtain ⟨k,tk,sum,hk,hg,rfl,rfl,hs0,hs1,hcost,hnk,hbl⟩:=hrel
  have HG:=hide hg
  have HC:=hide hcost
  have HNK:=hide hnk
  have HBL:=hide hbl
  clear hg hcost hnk
  by_cases hlt : k < nodes.length
  ·obtain ⟨b,o,cs,rfl,_,hb,hcs,hc,rfl⟩:=uh HX k hlt
   have c0:=(hbl.cell (p:=⟨b,_,none⟩) hb).trans (hc 0 (by simp))
   simp only [Nat.mul_one,Nat.add_zero,List.getElem_cons_zero] at c0
   have hd : nodes.drop k = nodes[k] :: nodes.drop (k + 1):=List.drop_eq_getElem_cons hlt
   have hh:=uh HNK
   rw [hd] at hh
   obtain ⟨h1,h2,h3,h4⟩:=hh.head
   have h3':=(hbl.cell (p:=⟨nodes[k].2,0,none⟩) (World.block_lt_of_cell? w _ h3)).trans h3
   have hcb:=costOf_bd kn (uh HK) tk
   rw [uh HKN] at h3'
   have HN2:=hide h2
   have HC2 : Hid (t.cost kn 0 = (tailP tk).cost kn (capS (sum + costOf kn tk))):=(uh HC).trans (cost_step kn tk h1 sum)
   clear hd hh h1 h2 h3 hc hcs hbl
   generalize nodes[k].1 = ty at *
   generalize nodes[k].2 = nb at *
   generalize costOf kn tk = ck at *
   rcases h4 with rfl | rfl | rfl | rfl
   ·have hm:=fun n => most_setting n nb ck wr h3'
    go_wp2
    all_goals
     go_roundg (nodes.length - (k + 1))
     case measure => have:=uh HG; omega
     case rel => exact ⟨k + 1,tailP tk,capS (sum + ck),by omega,rfl,by go_num,(by first | rw [capS_le _ (by omega)] | rw [capS_gt _ (by omega)]),(capS_bd _ (by omega)).1,(capS_bd _ (by omega)).2,uh HC2,uh HN2,(uh HBL).alloc (uh HBL).size _⟩
   ·have hm:=fun n => most_saving n nb ck wr h3'
    go_wp2
    all_goals
     go_roundg (nodes.length - (k + 1))
     case measure => have:=uh HG; omega
     case rel => exact ⟨k + 1,tailP tk,capS (sum + ck),by omega,rfl,by go_num,(by first | rw [capS_le _ (by omega)] | rw [capS_gt _ (by omega)]),(capS_bd _ (by omega)).1,(capS_bd _ (by omega)).2,uh HC2,uh HN2,(uh HBL).alloc (uh HBL).size _⟩
   ·have hm:=fun n => most_calling n nb ck wr h3'
    go_wp2
    all_goals
     go_roundg (nodes.length - (k + 1))
     case measure => have:=uh HG; omega
     case rel => exact ⟨k + 1,tailP tk,capS (sum + ck),by omega,rfl,by go_num,(by first | rw [capS_le _ (by omega)] | rw [capS_gt _ (by omega)]),(capS_bd _ (by omega)).1,(capS_bd _ (by omega)).2,uh HC2,uh HN2,(uh HBL).alloc (uh HBL).size _⟩
   ·have hm:=fun n => most_branching n nb ck wr h3'
    go_wp2
    all_goals
     go_roundg (nodes.length - (k + 1))
     case measure => have:=uh HG; omega
     case rel => exact ⟨k + 1,tailP tk,capS (sum + ck),by omega,rfl,by go_num,(by first | rw [capS_le _ (by omega)] | rw [capS_gt _ (by omega)]),(capS_bd _ (by omega)).1,(capS_bd _ (by omega)).2,uh HC2,uh HN2,(uh HBL).alloc (uh HBL).size _⟩
  ·have e : k = nodes.length:=by omega
   subst e
   have hh:=uh HNK
   rw [List.drop_length] at hh
   have ht:=hh.none
   subst ht
   have HF : Hid (t.cost kn 0 = sum):=uh HC
   clear HC hh
   go_wp2
   go_ret
   exact ⟨ret_int (uh HF).symm,uh HBL⟩
end Go.Proofs.YtjjldnkhadakcaaGreat
