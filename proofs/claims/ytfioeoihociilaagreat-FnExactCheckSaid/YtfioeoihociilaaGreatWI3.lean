import Derived.Test.YtfioeoihociilaaGreatWI1
import Derived.Test.YtfioeoihociilaaGreatSpecShape
import Derived.Test.YtfioeoihociilaaGreatMapF
import Derived.Test.YtfioeoihociilaaGreatOwn
import Derived.Deep.RegionHeld3
namespace Go.Proofs.YtfioeoihociilaaGreat
open Go.RowKit
set_option linter.unusedSimpArgs false
set_option linter.unusedVariables false
def uEq (ns : List DNode) (k : Nat) (ws : List Int) (e : DEq) : Nat :=
 1 + 2 * innerN e + lensTo (codesOf e) (codesOf e).length + (if findI ns k e.call < 0 then 0 else (ws.getD (findI ns k e.call).toNat 0).toNat)
def uNodeTo (ns : List DNode) (k : Nat) (ws : List Int) (eqs : List DEq) : Nat → Nat
 | 0 => 1
 | q + 1 => match eqs[q]? with
  | some e => uNodeTo ns k ws eqs q + uEq ns k ws e
  | none => uNodeTo ns k ws eqs q
theorem wEqS_add (ns : List DNode) (k : Nat) (ws : List Int) (w : Nat) (e : DEq) (h : e.call.size = 0 → findI ns k e.call < 0) : wEqS ns k ws w e = wCap (w + uEq ns k ws e):=by
 unfold wEqS wCall wEqLen uEq
 by_cases g : e.call.size = 0
 ·rw [if_pos g,if_pos (h g)]
  congr 1
  omega
 ·rw [if_neg g]
  by_cases f : findI ns k e.call < 0
  ·rw [if_pos f,if_pos f]
   congr 1
   omega
  ·rw [if_neg f,if_neg f]
   congr 1
   omega
theorem wCap_add (a c : Nat) : wCap (wCap a + c) = wCap (a + c):=by
 unfold wCap
 split <;> split <;> (try split) <;> omega
theorem wNodeTo_cap (ns : List DNode) (k : Nat) (ws : List Int) (eqs : List DEq) (h : ∀ e,e ∈ eqs → e.call.size = 0 → findI ns k e.call < 0) (q : Nat) : wNodeTo ns k ws eqs q = wCap (uNodeTo ns k ws eqs q):=by
 induction q with
 | zero => simp [wNodeTo,uNodeTo,wCap]
 | succ q ih =>
  unfold wNodeTo uNodeTo
  cases he : eqs[q]? with
  | none => exact ih
  | some e =>
   simp only
   rw [wEqS_add _ _ _ _ _ (h e (List.mem_of_getElem? he)),ih,wCap_add]
def NSmall (n : DNode) : Prop:=n.eqs.length ≤ 500 ∧ ∀ e,e ∈ n.eqs → ((codesOf e).length ≤ 500 ∧ ∀ c,c ∈ codesOf e → c.length ≤ 3000) ∧ (e.call.size = 0 → 0 < e.code.length)
def LibAt (w : World) (B b o : Nat) (ns : List DNode) (k : Nat) : Prop :=
 ∃ f,MapF Tryz.prog 9 (.pointer none) w B k f ∧ (∀ s,findI ns k s < 0 → f s = .pointer none) ∧
  ∀ s (i : Nat),findI ns k s = i → ∃ m,f s = .pointer (some ⟨m,0,none⟩) ∧ m ≠ B ∧ m < w.heap.size ∧ w.cell? ⟨m,0,none⟩ = some (.pointer (some ⟨b,o + i * 5,none⟩)) ∧ w.cell? ⟨m,1,none⟩ = some (.int .i64 ((wsTo ns k).getD i 0))
theorem LibAt.below {w w' : World} {B b o : Nat} {ns : List DNode} {k : Nat} (h : LibAt w B b o ns k) (hb : Below w.heap.size w w') : LibAt w' B b o ns k:=by
 obtain ⟨f,h1,h2,h3⟩:=h
 refine ⟨f,h1.below hb,h2,fun s i hi => ?_⟩
 obtain ⟨m,a1,a2,a3,a4,a5⟩:=h3 s i hi
 exact ⟨m,a1,a2,Nat.lt_of_lt_of_le a3 hb.size,by rw [hb.cell (p:=⟨m,0,none⟩) a3]; exact a4,by rw [hb.cell (p:=⟨m,1,none⟩) a3]; exact a5⟩
theorem zeroMem (w : World) : (zeroValue 94).run Tryz.prog w = .ok (.pointer none) w:=by kernel_rfl
theorem uEq_le (ns : List DNode) (k : Nat) (e : DEq) (h1 : (codesOf e).length ≤ 500) (h2 : ∀ c,c ∈ codesOf e → c.length ≤ 3000) : uEq ns k (wsTo ns k) e ≤ 5000000:=by
 have h3:=lensTo_le (codesOf e) 3000 h2 (codesOf e).length
 have h4:=innerTo_le (decide (e.call.size = 0)) (codesOf e) (codesOf e).length
 have h5 : (codesOf e).length * 3000 ≤ 500 * 3000:=Nat.mul_le_mul_right _ h1
 have h6 : (if findI ns k e.call < 0 then 0 else ((wsTo ns k).getD (findI ns k e.call).toNat 0).toNat) ≤ 20001:=by
  split
  ·omega
  ·rename_i hf
   have hb:=find_bd ns k e.call
   have hl : (findI ns k e.call).toNat < (wsTo ns k).length:=by rw [wsTo_length]; omega
   have e1 : (wsTo ns k).getD (findI ns k e.call).toNat 0 = (wsTo ns k)[(findI ns k e.call).toNat]:=by simp [List.getD,hl]
   rw [e1]
   have:=wsTo_bd ns k _ (List.getElem_mem hl)
   omega
 unfold uEq innerN
 unfold innerN at *
 omega
theorem uNodeTo_le (ns : List DNode) (k : Nat) (eqs : List DEq) (h : ∀ e,e ∈ eqs → uEq ns k (wsTo ns k) e ≤ 5000000) (q : Nat) : uNodeTo ns k (wsTo ns k) eqs q ≤ 1 + q * 5000000:=by
 have h' : ∀ M,(∀ e,e ∈ eqs → uEq ns k (wsTo ns k) e ≤ M) → uNodeTo ns k (wsTo ns k) eqs q ≤ 1 + q * M:=fun M hM => by
  induction q with
  | zero =>
   have : uNodeTo ns k (wsTo ns k) eqs 0 = 1:=rfl
   omega
  | succ q ih =>
   unfold uNodeTo
   rw [Nat.succ_mul]
   cases he : eqs[q]? with
   | none => simp only; omega
   | some e =>
    have:=hM e (List.mem_of_getElem? he)
    simp only
    omega
 exact h' 5000000 h
theorem min_cap (n : Nat) : (if (20001 : Int) < (n : Int) then (20001 : Int) else (n : Int)) = ((wCap n : Nat) : Int):=by
 unfold wCap
 split <;> split <;> omega
set_option maxHeartbeats 4000000 in
theorem weigh_ok (ns : List DNode) (k : Nat) (n : DNode) (B b o bn on : Nat) (w : World) (h : At 5 RNode w bn on n) (hL : LibAt w B b o ns k) (hS : NSmall n) (hE : ∀ e,e ∈ n.eqs → e.call.size = 0 → findI ns k e.call < 0) :
  Calls Tryz.prog 40 #[.map (some B),.pointer (some ⟨bn,on,none⟩)] w (Ans (.int .i64 ((wNodeTo ns k (wsTo ns k) n.eqs n.eqs.length : Nat) : Int)) w):=by
 have hcap:=wNodeTo_cap ns k (wsTo ns k) n.eqs hE n.eqs.length
 have hule:=uNodeTo_le ns k n.eqs (fun e he => uEq_le ns k e (hS.2 e he).1.1 (hS.2 e he).1.2)
 obtain ⟨nm,ins,outs,vars,eqs⟩:=n
 obtain ⟨hbl,cs,hl,hc,v1,v2,v3,v4,rfl,hs,_,_,_,h4⟩:=h
 simp only at *
 obtain ⟨b4,c4,rfl⟩:=h4.shape
 have k4:=hc 4 (by simp)
 simp only [List.getElem_cons_zero,List.getElem_cons_succ] at k4
 have K4:=hide k4
 have H4:=hide h4
 have n4:=h4.len'
 have HL:=hide hL
 have HSM:=hide hS.2
 have hn5:=hS.1
 have HULE:=hide hule
 have HCAP:=hide hcap
 clear h4 hc hs hl hL hS hE hule hcap
 go_enter Tryz.func40,Tryz.ntmps40
 go_wp2
 go_loopg [5,16] eqs.length (fun g n i wr => ∃ (q : Nat),q ≤ eqs.length ∧ g = eqs.length - q ∧ i = .int .i64 q ∧ n = .int .i64 ((uNodeTo ns k (wsTo ns k) eqs q : Nat) : Int) ∧ Below w.heap.size w wr)
 case atStart => exact ⟨0,Nat.zero_le _,by omega,rfl,rfl,Below.refl _ _⟩
 case round =>
  obtain ⟨q,hq,hgq,rfl,rfl,hblq⟩:=hrel
  rename World => wq
  have HGQ:=hide hgq
  have HBQ:=hide hblq
  have k4q : wq.cell? ⟨bn,on + 4,none⟩ = some (.slice b4 eqs.length c4):=by rw [hblq.cell (p:=⟨bn,on + 4,none⟩) hbl]; exact uh K4
  clear hgq hblq
  by_cases hlt : q < eqs.length
  ·obtain ⟨be,oe,ce,hve,hAt⟩:=(uh H4).at' q hlt
   simp only [Value.slice.injEq] at hve
   obtain ⟨rfl,_,rfl⟩:=hve
   have HAT:=hide (hAt.stays REq_kept (uh HBQ))
   have hsm:=uh HSM eqs[q] (List.getElem_mem hlt)
   have hub:=uh HULE q
   have hub2:=uh HULE (q + 1)
   have hue : uNodeTo ns k (wsTo ns k) eqs (q + 1) = uNodeTo ns k (wsTo ns k) eqs q + uEq ns k (wsTo ns k) eqs[q]:=by
    rw [uNodeTo,List.getElem?_eq_getElem hlt]
   have huq2:=uEq_le ns k eqs[q] hsm.1.1 hsm.1.2
   have hin : innerN eqs[q] ≤ 1500000:=by
    have h4:=innerTo_le (decide (eqs[q].call.size = 0)) (codesOf eqs[q]) (codesOf eqs[q]).length
    have h3:=lensTo_le (codesOf eqs[q]) 3000 hsm.1.2 (codesOf eqs[q]).length
    have h5 : (codesOf eqs[q]).length * 3000 ≤ 500 * 3000:=Nat.mul_le_mul_right _ hsm.1.1
    unfold innerN
    omega
   have HLEN:=hide (fun m => lensTo_le (codesOf eqs[q]) 3000 hsm.1.2 m)
   unfold uEq at hue huq2
   obtain ⟨_,cs,_,hcE,l0,c0,a0,rfl,hcl0,_,_,_⟩:=uh HAT
   have r2:=hcE 2 (by simp)
   simp only [List.getElem_cons_zero,List.getElem_cons_succ] at r2
   have R2:=hide r2
   have hbE:=(uh HAT).1
   obtain ⟨f,hMF,hM0,hM1⟩:=(uh HL).below (uh HBQ)
   have HMF:=hide hMF
   have HLK : Hid ((findI ns k eqs[q].call < 0 ∧ f eqs[q].call = .pointer none ∧ uNodeTo ns k (wsTo ns k) eqs (q + 1) = uNodeTo ns k (wsTo ns k) eqs q + (1 + 2 * innerN eqs[q] + lensTo (codesOf eqs[q]) (codesOf eqs[q]).length)) ∨ (∃ (m wn : Nat),f eqs[q].call = .pointer (some ⟨m,0,none⟩) ∧ m < wq.heap.size ∧ wq.cell? ⟨m,1,none⟩ = some (.int .i64 (wn : Int)) ∧ wn ≤ 20001 ∧ uNodeTo ns k (wsTo ns k) eqs (q + 1) = uNodeTo ns k (wsTo ns k) eqs q + (1 + 2 * innerN eqs[q] + lensTo (codesOf eqs[q]) (codesOf eqs[q]).length) + wn)):=by
    by_cases hf : findI ns k eqs[q].call < 0
    ·refine Or.inl ⟨hf,hM0 _ hf,?_⟩
     rw [if_pos hf] at hue
     omega
    ·have hfb:=find_bd ns k eqs[q].call
     obtain ⟨i,hi⟩:=Int.eq_ofNat_of_zero_le (show 0 ≤ findI ns k eqs[q].call by omega)
     obtain ⟨m,g1,g2,g3,g4,g5⟩:=hM1 _ i hi
     have hil : i < (wsTo ns k).length:=by rw [wsTo_length]; omega
     have e1 : (wsTo ns k).getD i 0 = (wsTo ns k)[i]:=by simp [List.getD,hil]
     have hwb:=wsTo_bd ns k _ (List.getElem_mem hil)
     rw [← e1] at hwb
     rw [if_neg hf,hi,Int.toNat_natCast] at hue
     generalize (wsTo ns k).getD i 0 = wi at *
     obtain ⟨wn,rfl⟩:=Int.eq_ofNat_of_zero_le hwb.1
     exact Or.inr ⟨m,wn,g1,g3,g5,by omega,by rw [hue,Int.toNat_natCast]; omega⟩
   have hcl : eqs[q].call.size ≤ maxLen:=by unfold Len at hcl0; unfold maxLen; omega
   clear hAt hue hcE r2 hMF hM0 hM1 huq2 hcl0
   generalize eqs[q] = x at *
   generalize uNodeTo ns k (wsTo ns k) eqs q = u0 at *
   have hu0 : u0 ≤ 2500000001:=by omega
   clear hub hub2
   have HIN:=hide (innerFbys_ok x be (oe + q * 4) wq (uh HAT) hsm.1.2 hsm.1.1 hsm.2)
   have HEXP:=hide (fun w1 (h : Below wq.heap.size wq w1) => expressions_ok x be (oe + q * 4) w1 ((uh HAT).stays REq_kept h))
   have hcn:=hsm.1.1
   generalize innerN x = inn at *
   generalize codesOf x = cds at *
   clear hsm HAT
   have hlt' : (q : Int) < (eqs.length : Int):=by omega
   go_wp2_with fail
   refine (uh HIN).mono ?_
   rintro e w1 ⟨rfl,hb1⟩
   have B1:=hide hb1
   clear hb1
   go_wp2_with fail
   refine (uh HEXP _ (uh B1)).mono ?_
   rintro e w2 ⟨vc,rfl,hVC,hb2⟩
   have B2 : Hid (Below wq.heap.size wq w2):=(uh B1).trans (hb2.mono (uh B1).size)
   obtain ⟨bv,cv,rfl⟩:=hVC.shape
   obtain ⟨_,_,hvv,_,hvn,hvx⟩:=hVC
   simp only [Value.slice.injEq] at hvv
   obtain ⟨rfl,_,rfl⟩:=hvv
   have HVX:=hide hvx
   have r2 : w2.cell? ⟨be,oe + q * 4 + 2,none⟩ = some (.string x.call):=by rw [(uh B2).cell (p:=⟨be,_,none⟩) hbE]; exact uh R2
   have HMF2:=hide ((uh HMF).below (uh B2))
   clear hvx hb2 R2 hvn
   go_wp2
   go_loopg [5,34] cds.length (fun g n i wr => ∃ (m : Nat),m ≤ cds.length ∧ g = cds.length - m ∧ i = .int .i64 m ∧ n = .int .i64 ((u0 + (1 + 2 * inn) + lensTo cds m : Nat) : Int) ∧ wr = w2)
   case atStart => exact ⟨0,Nat.zero_le _,by omega,rfl,int_eq (by simp [lensTo]),rfl⟩
   case round =>
    obtain ⟨m,hm,hgm,rfl,rfl,hw9⟩:=hrel
    obtain rfl:=hw9.symm
    have HGM:=hide hgm
    have hlb:=uh HLEN m
    have hlb2 : m * 3000 ≤ 500 * 3000:=Nat.mul_le_mul_right _ (by omega)
    clear hgm
    by_cases hltm : m < cds.length
    ·obtain ⟨ba,oa,csa,hbo,_,hba,hcsa,hca,hRa⟩:=uh HVX m hltm
     subst hbo
     obtain ⟨va,rfl,hE⟩:=hRa
     obtain ⟨bx,cx,rfl⟩:=hE.shape
     have r0:=hca 0 (by simp)
     simp only [Nat.mul_one,Nat.add_zero,List.getElem_cons_zero,List.getElem_cons_succ] at r0
     have nE:=hE.len'
     have SM : lensTo cds (m + 1) = lensTo cds m + cds[m].length:=by
      rw [lensTo,List.getElem?_eq_getElem hltm]
     have HSM2:=hide SM
     have hlb3:=uh HLEN (m + 1)
     have hlb4 : (m + 1) * 3000 ≤ 500 * 3000:=Nat.mul_le_mul_right _ (by omega)
     have hsz : u0 + (1 + 2 * inn) + lensTo cds m + cds[m].length ≤ 3000000000:=by rw [SM] at hlb3; omega
     clear SM hca hcsa hE hlb hlb2 hlb3 hlb4
     generalize cds[m] = el at *
     generalize lensTo cds m = lm at *
     have hltm' : (m : Int) < (cds.length : Int):=by omega
     go_wp2
     go_roundg (cds.length - (m + 1))
     case measure => have:=uh HGM; omega
     case rel => exact ⟨m + 1,by omega,rfl,by go_num,int_eq (by rw [uh HSM2]; omega),rfl⟩
    ·have e : m = cds.length:=by omega
     subst e
     generalize lensTo cds cds.length = lt at *
     have hsz : u0 + (1 + 2 * inn) + lt ≤ 2600000000:=by omega
     rcases uh HLK with ⟨hf,hfn,hu1⟩ | ⟨mm,wn,hfn,hmm,hmc,hwn,hu1⟩
     ·have hlk:=(uh HMF2).look (t:=40) Tryz.underlying9 Tryz.underlying40 (zeroMem _) hcl
      rw [hfn] at hlk
      have HU1:=hide hu1
      clear hu1 hfn hf hlb hlb2
      go_wp2
      go_roundg (eqs.length - (q + 1))
      case measure => have:=uh HGQ; omega
      case rel => exact ⟨q + 1,by omega,rfl,by go_num,int_eq (by rw [uh HU1]; omega),(uh HBQ).trans ((uh B2).mono (uh HBQ).size)⟩
     ·have hlk:=(uh HMF2).look (t:=40) Tryz.underlying9 Tryz.underlying40 (zeroMem _) hcl
      rw [hfn] at hlk
      have hmc2 : w2.cell? ⟨mm,1,none⟩ = some (.int .i64 (wn : Int)):=by rw [(uh B2).cell (p:=⟨mm,1,none⟩) hmm]; exact hmc
      have HU1:=hide hu1
      clear hu1 hfn hmc hlb hlb2
      go_wp2
      go_roundg (eqs.length - (q + 1))
      case measure => have:=uh HGQ; omega
      case rel => exact ⟨q + 1,by omega,rfl,by go_num,int_eq (by rw [uh HU1]; omega),(uh HBQ).trans ((uh B2).mono (uh HBQ).size)⟩
  ·have e : q = eqs.length:=by omega
   subst e
   have hub:=uh HULE eqs.length
   have HCP:=hide (min_cap (uNodeTo ns k (wsTo ns k) eqs eqs.length))
   generalize uNodeTo ns k (wsTo ns k) eqs eqs.length = u0 at *
   go_wp2
   ·have hx : wCap u0 = 20001:=by
     unfold wCap
     rw [if_pos (by omega)]
    have HX:=hide hx
    clear hx
    go_ret
    exact ⟨ret_int (by rw [uh HCAP,uh HX]; rfl),uh HBQ⟩
   ·have hx : wCap u0 = u0:=by
     unfold wCap
     split <;> omega
    have HX:=hide hx
    clear hx
    go_ret
    exact ⟨ret_int (by rw [uh HCAP,uh HX]),uh HBQ⟩
def allV (n : DNode) : List DVar:=n.ins ++ n.outs ++ n.vars
def lookN (vs : List DVar) (x : ByteArray) : Nat:=vs.findIdx fun v => v.name.toList == x.toList
def lookV (vs : List DVar) (x : ByteArray) : DVar:=if h : lookN vs x < vs.length then vs[lookN vs x] else ⟨⟨#[]⟩,0,[]⟩
def lookI (vs : List DVar) (x : ByteArray) : Int:=if lookN vs x < vs.length then (lookN vs x : Int) else -1
theorem look_hit (vs : List DVar) (x : ByteArray) (k : Nat) (h : k < vs.length) (hb : ∀ j (hj : j < vs.length),j < k → (vs[j].name.toList == x.toList) = false) (he : (vs[k].name.toList == x.toList) = true) : lookV vs x = vs[k] ∧ lookI vs x = k:=by
 have e : lookN vs x = k:=by
  unfold lookN
  rw [List.findIdx_eq h]
  exact ⟨he,fun j hj => by simpa using hb j (by omega) hj⟩
 unfold lookV lookI
 rw [e]
 simp [h]
theorem look_miss (vs : List DVar) (x : ByteArray) (hb : ∀ j (hj : j < vs.length),(vs[j].name.toList == x.toList) = false) : lookV vs x = ⟨⟨#[]⟩,0,[]⟩ ∧ lookI vs x = -1:=by
 have e : lookN vs x = vs.length:=by
  unfold lookN
  rw [List.findIdx_eq_length]
  intro v hv
  obtain ⟨j,hj,rfl⟩:=List.getElem_of_mem hv
  exact hb j hj
 unfold lookV lookI
 rw [e]
 simp
theorem clock_off {w w' : World} {cl : Value} {ks : List DCond} {rb l c : Nat} {e : TypeId} {s : ByteArray} {a : Option Addr} {z : Int} {kd : IntKind} (h : SlAt 2 24 RCond 0 w cl ks) (hb : BlkAt w rb e #[.string s,.int kd z,.slice a l c])
  (hk : ∀ b,b ≠ rb → b < w.heap.size → w'.heap[b]? = w.heap[b]?) (hs : w.heap.size ≤ w'.heap.size) : SlAt 2 24 RCond 0 w' cl ks:=by
 obtain ⟨ad,cap,rfl,h1,h2,hx⟩:=h
 refine ⟨ad,cap,rfl,h1,h2,fun i hi => ?_⟩
 obtain ⟨b,o,cs,rfl,hlo,hlt,hcs,hc,hR⟩:=hx i hi
 have hne : b ≠ rb:=by
  intro he
  subst he
  obtain ⟨rfl,_⟩:=hR
  have hc1:=hc 1 (by simp)
  unfold BlkAt at hb
  simp only [World.cell?,hb,Option.isSome_none,Bool.false_eq_true,if_false,List.getElem_cons_succ,List.getElem_cons_zero] at hc1
  match hq : o + i * 2 + 1 with
  | 0 => omega
  | 1 => rw [hq] at hc1; simp at hc1
  | 2 => rw [hq] at hc1; simp at hc1
  | q + 3 => rw [hq] at hc1; simp at hc1
 refine ⟨b,o,cs,rfl,hlo,by omega,hcs,fun j hj => ?_,hR⟩
 rw [← hc j hj]
 unfold World.cell?
 rw [hk b hne hlt]
def VarOut (vs : List DVar) (x : ByteArray) (w : World) (e : Ending) (w' : World) : Prop :=
 ∃ cl,e = .returned (.tuple #[.agg #[.string (lookV vs x).name,.int .i64 (lookV vs x).type,cl],.int .i64 (lookI vs x)]) ∧ SlAt 2 24 RCond 0 w' cl (lookV vs x).clock ∧ Below w.heap.size w w'
set_option maxHeartbeats 2000000 in
theorem l2Var_ok (x : DNode) (a1 a2 a3 a4 : Value) (nm : ByteArray) (w : World) (h1 : SlAt 3 48 RVar 0 w a1 x.ins) (h2 : SlAt 3 48 RVar 0 w a2 x.outs) (h3 : SlAt 3 48 RVar 0 w a3 x.vars) (h4 : ∃ a n c,a4 = .slice a n c) (hsum : x.ins.length + x.outs.length + x.vars.length ≤ 1048576) :
  Calls Tryz.prog 23 #[.agg #[.string x.name,a1,a2,a3,a4],.string nm] w (VarOut (allV x) nm w):=by
 have P0 : Below w.heap.size w ((w.alloc (.cells #[.string x.name,a1,a2,a3,a4] 45)).alloc (.cells #[.string ⟨#[]⟩,.int .i64 0,.slice none 0 0] 63)):=((Below.refl _ _).alloc (Nat.le_refl _) _).alloc (by simp) _
 have HP0:=hide P0
 have HC:=hide (l1Vars_ok x a1 a2 a3 a4 _ (h1.stays RVar_kept P0) (h2.stays RVar_kept P0) (h3.stays RVar_kept P0) hsum)
 obtain ⟨b1,c1,rfl⟩:=h1.shape
 obtain ⟨b2,c2,rfl⟩:=h2.shape
 obtain ⟨b3,c3,rfl⟩:=h3.shape
 obtain ⟨b4,n4,c4,rfl⟩:=h4
 clear h1 h2 h3 P0 hsum
 have EV : Hid (allV x = x.ins ++ x.outs ++ x.vars):=rfl
 rw [← uh EV] at HC
 clear EV
 generalize allV x = vs at *
 go_enter Tryz.func23,Tryz.ntmps23
 go_wp2_with fail
 refine (uh HC).mono ?_
 rintro e w1 ⟨v,rfl,hv,hb1⟩
 have HB1 : Hid (Below w.heap.size w w1):=(uh HP0).trans (hb1.mono (uh HP0).size)
 have hs1 : w.heap.size + 2 ≤ w1.heap.size:=by
  have:=hb1.size
  simp at this
  omega
 have HBK : Hid (BlkAt w1 (w.heap.size + 1) 63 #[.string ⟨#[]⟩,.int .i64 0,.slice none 0 0]):=by
  have h:=blk_box (w.alloc (.cells #[.string x.name,.slice b1 x.ins.length c1,.slice b2 x.outs.length c2,.slice b3 x.vars.length c3,.slice b4 n4 c4] 45)) #[.string ⟨#[]⟩,.int .i64 0,.slice none 0 0] 63
  have h2:=h.below hb1 (by simp)
  have e : (w.alloc (.cells #[.string x.name,.slice b1 x.ins.length c1,.slice b2 x.outs.length c2,.slice b3 x.vars.length c3,.slice b4 n4 c4] 45)).heap.size = w.heap.size + 1:=by simp
  rw [e] at h2
  exact h2
 obtain ⟨a,cap,rfl,_,hn,hx⟩:=hv
 unfold Len at hn
 have HX:=hide hx
 clear hx hb1 HC
 go_wp2
 go_loopg [11] vs.length (fun g i wr => ∃ (k : Nat),k ≤ vs.length ∧ g = vs.length - k ∧ i = .int .i64 k ∧ Below w1.heap.size w1 wr ∧ ∀ j (hj : j < vs.length),j < k → (vs[j].name.toList == nm.toList) = false)
 case atStart => exact ⟨0,Nat.zero_le _,by omega,rfl,Below.refl _ _,fun j _ h => absurd h (Nat.not_lt_zero _)⟩
 case round =>
  obtain ⟨k,hk,hg,rfl,hbl,hno⟩:=hrel
  rename World => wN
  have HG:=hide hg
  have HNO:=hide hno
  have HBL:=hide hbl
  have hNs:=hbl.size
  clear hg hno
  by_cases hlt : k < vs.length
  ·obtain ⟨b,o,cs,hbo,_,hb,hcs,hc0,hR⟩:=uh HX k hlt
   subst hbo
   have hc : ∀ j (hj : j < cs.length),wN.cell? ⟨b,o + k * 3 + j,none⟩ = some cs[j]:=fun j hj => by rw [hbl.cell (p:=⟨b,_,none⟩) hb]; exact hc0 j hj
   obtain ⟨cl,rfl,hsn,hty,hcl⟩:=hR
   have q0:=hc 0 (by simp)
   have q1:=hc 1 (by simp)
   have q2:=hc 2 (by simp)
   simp only [Nat.mul_one,Nat.add_zero,List.getElem_cons_zero,List.getElem_cons_succ] at q0 q1 q2
   have HCL:=hide hcl
   obtain ⟨acl,ccl,rfl⟩:=hcl.shape
   clear hc hc0 hcs hty hcl hsn
   cases he : (vs[k].name.toList == nm.toList)
   ·have HNO2 : Hid (∀ j (hj : j < vs.length),j < k + 1 → (vs[j].name.toList == nm.toList) = false):=by
     intro j h h1
     by_cases e : j = k
     ·subst e; exact he
     ·exact uh HNO j h (by omega)
    generalize vs[k].clock.length = n1 at *
    generalize vs[k].type = t1 at *
    generalize vs[k].name = s1 at *
    go_wp2
    go_roundg (vs.length - (k + 1))
    case measure => have:=uh HG; omega
    case rel => exact ⟨k + 1,by omega,rfl,by go_num,hbl.alloc hbl.size _,uh HNO2⟩
   ·have HL:=hide (look_hit vs nm k hlt (uh HNO) he)
    have hal : Below w1.heap.size w1 (wN.alloc (.cells #[.string vs[k].name,.int .i64 vs[k].type,.slice acl vs[k].clock.length ccl] 63)):=hbl.alloc hbl.size _
    have hbk:=(uh HBK).below hal (by omega)
    have HBK2:=hide hbk
    have r0:=hbk.cell (i:=0) rfl
    have r1:=hbk.cell (i:=1) rfl
    have r2:=hbk.cell (i:=2) rfl
    have f0:=hbk.free 0
    have f1:=hbk.free 1
    have f2:=hbk.free 2
    have HAL:=hide hal
    clear hbk hal
    go_wp2
    have hB:=BlkAt.set3 (x:=.string vs[k].name) (y:=.int .i64 vs[k].type) (z:=.slice acl vs[k].clock.length ccl) (uh HBK2)
    have cc0:=hB.cell (i:=0) rfl
    have cc1:=hB.cell (i:=1) rfl
    have cc2:=hB.cell (i:=2) rfl
    refine bodyPost_ret (v:=.tuple #[.agg #[.string vs[k].name,.int .i64 vs[k].type,.slice acl vs[k].clock.length ccl],.int .i64 k]) (by simp [results,Tryz.results23,go_sem,cc0,cc1,cc2]) rfl ?_
    refine ⟨.slice acl vs[k].clock.length ccl,by rw [(uh HL).1,(uh HL).2],?_,?_⟩
    ·rw [(uh HL).1]
     refine clock_off (uh HCL) (uh HBK) (fun b' h1 h2 => ?_) ?_
     ·rw [Below.heap_setCell _ _ _ _ h1,Below.heap_setCell _ _ _ _ h1,Below.heap_setCell _ _ _ _ h1]
      exact (uh HAL).block b' h2
     ·simpa using (uh HAL).size
    ·exact ((((uh HB1).trans ((uh HAL).mono (by omega))).setCell (by simp) _).setCell (by simp) _).setCell (by simp) _
  ·have e : k = vs.length:=by omega
   subst e
   have HL:=hide (look_miss vs nm (fun j hj => uh HNO j hj hj))
   have hbk:=(uh HBK).below hbl (by omega)
   have HBK2:=hide hbk
   have r0:=hbk.cell (i:=0) rfl
   have r1:=hbk.cell (i:=1) rfl
   have r2:=hbk.cell (i:=2) rfl
   have f0:=hbk.free 0
   have f1:=hbk.free 1
   have f2:=hbk.free 2
   clear hbk
   go_wp2
   have hB:=BlkAt.set3 (x:=.string ⟨#[]⟩) (y:=.int .i64 0) (z:=.slice none 0 0) (uh HBK2)
   have cc0:=hB.cell (i:=0) rfl
   have cc1:=hB.cell (i:=1) rfl
   have cc2:=hB.cell (i:=2) rfl
   refine bodyPost_ret (v:=.tuple #[.agg #[.string ⟨#[]⟩,.int .i64 0,.slice none 0 0],.int .i64 (-1)]) (by simp [results,Tryz.results23,go_sem,cc0,cc1,cc2]) rfl ?_
   refine ⟨.slice none 0 0,by rw [(uh HL).1,(uh HL).2],?_,?_⟩
   ·rw [(uh HL).1]
    exact ⟨none,0,rfl,⟨by simp [Len],Nat.le_refl _⟩,by simp [Len],fun i hi => absurd hi (Nat.not_lt_zero _)⟩
   ·exact ((((uh HB1).trans ((uh HBL).mono (by omega))).setCell (by simp) _).setCell (by simp) _).setCell (by simp) _
def clkOf (vs : List DVar) (x : ByteArray) : List DCond:=(lookV vs x).clock
set_option maxHeartbeats 1000000 in
theorem l2Clock_ok (x : DNode) (a1 a2 a3 a4 : Value) (nm : ByteArray) (w : World) (h1 : SlAt 3 48 RVar 0 w a1 x.ins) (h2 : SlAt 3 48 RVar 0 w a2 x.outs) (h3 : SlAt 3 48 RVar 0 w a3 x.vars) (h4 : ∃ a n c,a4 = .slice a n c) (hsum : x.ins.length + x.outs.length + x.vars.length ≤ 1048576) :
  Calls Tryz.prog 49 #[.agg #[.string x.name,a1,a2,a3,a4],.string nm] w fun e w' => ∃ cl,e = .returned cl ∧ SlAt 2 24 RCond 0 w' cl (clkOf (allV x) nm) ∧ Below w.heap.size w w':=by
 have P0 : Below w.heap.size w (w.alloc (.cells #[.string x.name,a1,a2,a3,a4] 45)):=(Below.refl _ _).alloc (Nat.le_refl _) _
 have HP0:=hide P0
 have HC:=hide (l2Var_ok x a1 a2 a3 a4 nm _ (h1.stays RVar_kept P0) (h2.stays RVar_kept P0) (h3.stays RVar_kept P0) h4 hsum)
 obtain ⟨b1,c1,rfl⟩:=h1.shape
 obtain ⟨b2,c2,rfl⟩:=h2.shape
 obtain ⟨b3,c3,rfl⟩:=h3.shape
 obtain ⟨b4,n4,c4,rfl⟩:=h4
 clear h1 h2 h3 P0 hsum
 unfold VarOut at HC
 go_enter Tryz.func49,Tryz.ntmps49
 go_wp2_with fail
 refine (uh HC).mono ?_
 rintro e w1 ⟨cl,rfl,hcl,hb1⟩
 have HB1 : Hid (Below w.heap.size w w1):=(uh HP0).trans (hb1.mono (uh HP0).size)
 have hs1:=(uh HB1).size
 have HCL:=hide hcl
 obtain ⟨ac,cc,rfl⟩:=hcl.shape
 clear hb1 hcl HC
 have HE : Hid (clkOf (allV x) nm = (lookV (allV x) nm).clock):=rfl
 generalize lookV (allV x) nm = lv at *
 generalize lookI (allV x) nm = li at *
 go_wp2
 go_ret
 have hal : Below w1.heap.size w1 (w1.alloc (.cells #[.string lv.name,.int .i64 lv.type,.slice ac lv.clock.length cc] 63)):=(Below.refl _ _).alloc (Nat.le_refl _) _
 exact ⟨_,rfl,by rw [uh HE]; exact (uh HCL).stays RCond_kept hal,(uh HB1).trans (hal.mono hs1)⟩
def condE (c d : DCond) : Bool:=(c.name.toList == d.name.toList) && (c.on == d.on)
def sameC (xs ys : List DCond) : Bool:=decide (xs.length = ys.length) && (xs.zip ys).all fun p => condE p.1 p.2
theorem sameC_no {xs ys : List DCond} (i : Nat) (h1 : i < xs.length) (h2 : i < ys.length) (h : condE xs[i] ys[i] = false) : sameC xs ys = false:=by
 have : ((xs.zip ys).all fun p => condE p.1 p.2) = false:=by
  rw [List.all_eq_false]
  refine ⟨(xs[i],ys[i]),?_,by simp [h]⟩
  have hz : i < (xs.zip ys).length:=by simp; omega
  have:=List.getElem_mem hz
  rwa [List.getElem_zip] at this
 unfold sameC
 rw [this,Bool.and_false]
theorem sameC_yes {xs ys : List DCond} (hl : xs.length = ys.length) (h : ∀ i (h1 : i < xs.length) (h2 : i < ys.length),condE xs[i] ys[i] = true) : sameC xs ys = true:=by
 unfold sameC
 rw [Bool.and_eq_true,decide_eq_true_iff,List.all_eq_true]
 refine ⟨hl,fun p hp => ?_⟩
 obtain ⟨i,hi,rfl⟩:=List.getElem_of_mem hp
 rw [List.getElem_zip]
 exact h i _ _
set_option maxHeartbeats 2000000 in
theorem l1SameClock_ok (xs ys : List DCond) (u v : Value) (w : World) (hu : SlAt 2 24 RCond 0 w u xs) (hv : SlAt 2 24 RCond 0 w v ys) :
  Calls Tryz.prog 24 #[u,v] w (Ans (.bool (sameC xs ys)) w):=by
 obtain ⟨a,ca,rfl,_,hn,hx⟩:=hu
 obtain ⟨b,cb,rfl,_,hm,hy⟩:=hv
 unfold Len at hn hm
 have HX:=hide hx
 have HY:=hide hy
 clear hx hy
 by_cases hl : xs.length = ys.length
 ·have HL:=hide hl
  rw [← hl]
  have hb : ((xs.length : Int) != (xs.length : Int)) = false:=by simp
  go_enter Tryz.func24,Tryz.ntmps24
  clear hl
  go_wp2
  go_loopg [13] xs.length (fun g i wr => ∃ (k : Nat),k ≤ xs.length ∧ g = xs.length - k ∧ i = .int .i64 k ∧ Below w.heap.size w wr ∧ ∀ i (h1 : i < xs.length) (h2 : i < ys.length),i < k → condE xs[i] ys[i] = true)
  case atStart => exact ⟨0,Nat.zero_le _,by omega,rfl,Below.refl _ _,fun i _ _ h => absurd h (Nat.not_lt_zero _)⟩
  case round =>
   obtain ⟨k,hk,hg,rfl,hbl,hall⟩:=hrel
   rename World => wN
   have HG:=hide hg
   have HALL:=hide hall
   have HBL:=hide hbl
   clear hg hall
   by_cases hlt : k < xs.length
   ·have hlt2 : k < ys.length:=by rw [← uh HL]; exact hlt
    obtain ⟨b1,o1,cs1,hbo1,_,hb1,hcs1,hc1,hR1⟩:=uh HX k hlt
    obtain ⟨b2,o2,cs2,hbo2,_,hb2,hcs2,hc2,hR2⟩:=uh HY k hlt2
    subst hbo1 hbo2
    obtain ⟨rfl,_⟩:=hR1
    obtain ⟨rfl,_⟩:=hR2
    have hd1 : ∀ j (hj : j < 2),wN.drew.cell? ⟨b1,o1 + k * 2 + j,none⟩ = some ([Value.string xs[k].name,.bool xs[k].on][j]'hj):=fun j hj => by rw [(hbl.drew).cell (p:=⟨b1,_,none⟩) hb1]; exact hc1 j hj
    have hd2 : ∀ j (hj : j < 2),wN.drew.cell? ⟨b2,o2 + k * 2 + j,none⟩ = some ([Value.string ys[k].name,.bool ys[k].on][j]'hj):=fun j hj => by rw [(hbl.drew).cell (p:=⟨b2,_,none⟩) hb2]; exact hc2 j hj
    have p0:=hd1 0 (by decide)
    have p1:=hd1 1 (by decide)
    have q0:=hd2 0 (by decide)
    have q1:=hd2 1 (by decide)
    simp only [Nat.mul_one,Nat.add_zero,List.getElem_cons_zero,List.getElem_cons_succ] at p0 p1 q0 q1
    have HN:=hide (sameC_no k hlt hlt2)
    have HA2 : Hid (condE xs[k] ys[k] = true → ∀ i (h1 : i < xs.length) (h2 : i < ys.length),i < k + 1 → condE xs[i] ys[i] = true):=fun he i h1 h2 h3 => by
     by_cases e : i = k
     ·subst e; exact he
     ·exact uh HALL i h1 h2 (by omega)
    have HCE : Hid (condE xs[k] ys[k] = ((xs[k].name.toList == ys[k].name.toList) && (xs[k].on == ys[k].on))):=rfl
    have hki : (k : Int) < (xs.length : Int):=by omega
    clear hd1 hd2 hc1 hc2 hcs1 hcs2
    generalize condE xs[k] ys[k] = ce at *
    generalize xs[k].name = n1 at *
    generalize ys[k].name = n2 at *
    generalize xs[k].on = t1 at *
    generalize ys[k].on = t2 at *
    cases hn : (n1.toList == n2.toList)
    ·have hcf : ce = false:=by rw [uh HCE,hn,Bool.false_and]
     have HS:=hide (uh HN hcf)
     clear HCE HN HA2 hcf
     go_wp2_with fail
     go_region_with (fail)
     all_goals
      go_wp2
      go_ret
      exact ⟨ret_bool (uh HS).symm,hbl.drew⟩
    ·cases t1 <;> cases t2
     case true.true =>
      have hcf : ce = true:=by rw [uh HCE,hn]; rfl
      have HS:=hide (uh HA2 hcf)
      clear HCE HN HA2 hcf
      go_wp2_with fail
      go_region_with (fail)
      all_goals
       go_wp2
       go_roundg (xs.length - (k + 1))
       case measure => have:=uh HG; omega
       case rel => exact ⟨k + 1,by omega,rfl,by go_num,hbl.drew,uh HS⟩
     case false.false =>
      have hcf : ce = true:=by rw [uh HCE,hn]; rfl
      have HS:=hide (uh HA2 hcf)
      clear HCE HN HA2 hcf
      go_wp2_with fail
      go_region_with (fail)
      all_goals
       go_wp2
       go_roundg (xs.length - (k + 1))
       case measure => have:=uh HG; omega
       case rel => exact ⟨k + 1,by omega,rfl,by go_num,hbl.drew,uh HS⟩
     all_goals
      have hcf : ce = false:=by rw [uh HCE,hn]; rfl
      have HS:=hide (uh HN hcf)
      clear HCE HN HA2 hcf
      go_wp2_with fail
      go_region_with (fail)
      all_goals
       go_wp2
       go_ret
       exact ⟨ret_bool (uh HS).symm,hbl.drew⟩
   ·have e : k = xs.length:=by omega
    have HS:=hide (sameC_yes (uh HL) (fun i h1 h2 => uh HALL i h1 h2 (by omega)))
    subst e
    go_wp2
    go_ret
    exact ⟨ret_bool (uh HS).symm,hbl⟩
 ·have HS : Hid (sameC xs ys = false):=by
   show sameC xs ys = false
   unfold sameC
   simp [hl]
  have hb : ((xs.length : Int) != (ys.length : Int)) = true:=by simp; omega
  clear hl
  go_enter Tryz.func24,Tryz.ntmps24
  go_wp2
  go_ret
  exact ⟨ret_bool (uh HS).symm,Below.refl _ _⟩
end Go.Proofs.YtfioeoihociilaaGreat
