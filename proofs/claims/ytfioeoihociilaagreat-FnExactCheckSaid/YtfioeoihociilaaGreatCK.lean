import Derived.Test.YtfioeoihociilaaGreatCN2
import Derived.Test.YtfioeoihociilaaGreatWI3
import Derived.Test.YtfioeoihociilaaGreatEvery
import Derived.Test.YtfioeoihociilaaGreatItemsB
namespace Go.Proofs.YtfioeoihociilaaGreat
open Go.RowKit
set_option linter.unusedSimpArgs false
set_option linter.unusedVariables false
def nodeF (ns : List DNode) (i : Nat) : Int × Int:=match ns[i]? with | some x => nodeFault ns i x | none => (0,0)
def checkF (ns : List DNode) : Int × Int × Int :=
 if shapeB ns = false then (1,0,0) else
 match firstTo (fun i => (nodeF ns i).1 != 0) ns.length with
 | some i => ((nodeF ns i).1,(i : Int),(nodeF ns i).2)
 | none => (0,0,0)
theorem ret_three {a b c : Int} {p : Int × Int × Int} (h : p = (a,b,c)) : Ending.returned (.tuple #[.int .i64 a,.int .i64 b,.int .i64 c]) = .returned (.tuple #[.int .i64 p.1,.int .i64 p.2.1,.int .i64 p.2.2]):=by rw [h]
theorem nodeF_at (ns : List DNode) (i : Nat) (hi : i < ns.length) : nodeF ns i = nodeFault ns i ns[i]:=by unfold nodeF; rw [List.getElem?_eq_getElem hi]
set_option maxHeartbeats 1000000 in
theorem specCheck_ok (ns : List DNode) (v : Value) (w : World) (h1 : SlAt 5 112 RNode 0 w v ns) (hsm : ∀ n,n ∈ ns → n.ins.length + n.outs.length + n.vars.length ≤ 1048576) :
  Calls Tryz.prog 5 #[.agg #[v]] w fun e w' => e = .returned (.tuple #[.int .i64 (checkF ns).1,.int .i64 (checkF ns).2.1,.int .i64 (checkF ns).2.2]) ∧ Below w.heap.size w w':=by
 obtain ⟨b0,c0,rfl⟩:=h1.shape
 have n1:=h1.len'
 have B0:=hide ((Below.refl w.heap.size w).alloc (Nat.le_refl _) (.cells #[.slice b0 ns.length c0] 30))
 have HSH:=hide (specShape_ok ns _ _ (h1.stays RNode_kept (uh B0)) hsm)
 have H1:=hide h1
 clear h1
 cases hsh : shapeB ns
 ·have HR : Hid (checkF ns = (1,0,0)):=by
   show checkF ns = (1,0,0)
   unfold checkF
   rw [if_pos hsh]
  have HS0:=uh HSH
  rw [hsh] at HS0
  have HS1:=hide HS0
  clear HS0 HSH hsh
  generalize checkF ns = R at *
  go_enter Tryz.func5,Tryz.ntmps5
  go_wp2_with fail
  refine (uh HS1).mono ?_
  rintro e w1 ⟨rfl,hb1⟩
  have B1 : Hid (Below w.heap.size w w1):=(uh B0).trans (hb1.mono (uh B0).size)
  clear hb1
  go_wp2
  go_ret3
  exact ⟨ret_three (uh HR),uh B1⟩
 ·have HN:=hide (fun i (hi : i < ns.length) w' (hb : Below w.heap.size w w') => l2NodeFault_ok ns i hi _ w' ((uh H1).stays RNode_kept hb) hsh)
  have HRS : Hid (∀ i,i < ns.length → ((nodeF ns i).1 != 0) = true → (∀ j,j < i → ((nodeF ns j).1 != 0) = false) → checkF ns = ((nodeF ns i).1,(i : Int),(nodeF ns i).2)):=fun i hi h h' => by
   unfold checkF
   rw [if_neg (by rw [hsh]; simp),first_hit hi h h']
  have HRN : Hid ((∀ j,j < ns.length → ((nodeF ns j).1 != 0) = false) → checkF ns = (0,0,0)):=fun h => by
   unfold checkF
   rw [if_neg (by rw [hsh]; simp),first_none h]
  have HS0:=uh HSH
  rw [hsh] at HS0
  have HS1:=hide HS0
  clear HS0 HSH hsh
  generalize checkF ns = R at *
  go_enter Tryz.func5,Tryz.ntmps5
  go_wp2_with fail
  refine (uh HS1).mono ?_
  rintro e w1 ⟨rfl,hb1⟩
  have HBX1:=hide (box_of hb1)
  have HBD : Hid (∀ w',Below w1.heap.size w1 w' → Below w.heap.size w w' ∧ w'.cell? ⟨w.heap.size,0,none⟩ = some (.slice b0 ns.length c0)):=fun w' hb => by
   have h2 : Below (w.heap.size + 1) (w.alloc (.cells #[.slice b0 ns.length c0] 30)) w':=(uh HBX1).trans (hb.mono (by have:=(uh HBX1).size; simpa using this))
   exact ⟨(uh B0).trans (h2.mono (Nat.le_succ _)),by rw [box_cell (B:=0) h2 0]; rfl⟩
  have k1:=(uh HBD w1 (Below.refl _ _)).2
  clear hb1
  go_wp2
  clear k1
  go_loopg [14] ns.length (fun g i' wr => ∃ (i : Nat),i ≤ ns.length ∧ g = ns.length - i ∧ i' = .int .i64 i ∧ (∀ j,j < i → ((nodeF ns j).1 != 0) = false) ∧ Below w1.heap.size w1 wr)
  case atStart => exact ⟨0,Nat.zero_le _,by omega,rfl,fun j hj => absurd hj (Nat.not_lt_zero _),Below.refl _ _⟩
  case round =>
   obtain ⟨i,hi,hg,rfl,hno,hb⟩:=hrel
   rename World => wr
   have HG:=hide hg
   have HNO:=hide hno
   have HB:=hide hb
   obtain ⟨hbw,k1⟩:=uh HBD wr hb
   have HBW:=hide hbw
   clear hg hno
   by_cases hlt : i < ns.length
   ·have HC:=hide (uh HN i hlt wr hbw)
    rw [← nodeF_at ns i hlt] at HC
    have HS2:=hide (uh HRS i hlt)
    have HG2 : Hid (((nodeF ns i).1 != 0) = false → ∀ j,j < i + 1 → ((nodeF ns j).1 != 0) = false):=fun h j hj => by
     by_cases e : j = i
     ·subst e; exact h
     ·exact uh HNO j (by omega)
    have hlt' : (i : Int) < (ns.length : Int):=by omega
    clear hb hbw HRS HRN
    generalize nodeF ns i = nf at HC HS2 HG2
    obtain ⟨f1,f2⟩:=nf
    simp only at HC HS2 HG2
    by_cases hf : f1 = 0
    ·have d1 : (f1 != 0) = false:=by simp [hf]
     have HN2:=hide (uh HG2 d1)
     clear HG2 HS2 hf
     go_wp2_with fail
     refine (uh HC).mono ?_
     rintro e w3 ⟨rfl,hb3⟩
     have HB3 : Hid (Below w1.heap.size w1 w3):=(uh HB).trans (hb3.mono (uh HB).size)
     clear hb3
     go_wp2
     go_roundg (ns.length - (i + 1))
     case measure => have:=uh HG; omega
     case rel => exact ⟨i + 1,by omega,rfl,by go_num,uh HN2,uh HB3⟩
    ·have d1 : (f1 != 0) = true:=by simp [hf]
     have HR:=hide (uh HS2 d1 (uh HNO))
     clear HG2 HS2 hf
     go_wp2_with fail
     refine (uh HC).mono ?_
     rintro e w3 ⟨rfl,hb3⟩
     have HF : Hid (Below w.heap.size w w3):=(uh HBW).trans (hb3.mono (uh HBW).size)
     clear hb3
     go_wp2
     go_ret3
     exact ⟨ret_three (uh HR),uh HF⟩
   ·have e : i = ns.length:=by omega
    subst e
    have HR:=hide (uh HRN (uh HNO))
    go_wp2
    go_ret3
    exact ⟨ret_three (uh HR),uh HBW⟩
theorem name_eq (a s : ByteArray) : (a.toList == s.toList) = true ↔ s = a:=by
 rw [beq_iff_eq,ByteArray.toList_eq,ByteArray.toList_eq]
 exact ⟨fun h => (bytes_eq h).symm,fun h => by rw [h]⟩
theorem find_old (ns : List DNode) (k i : Nat) (s : ByteArray) (hk : k < ns.length) (h : findI ns k s = i) : findI ns (k + 1) s = i:=by
 unfold findI at *
 rw [List.take_succ_eq_append_getElem hk,List.findIdx?_append]
 cases hx : (ns.take k).findIdx? (fun x => x.name.toList == s.toList) with
 | none => rw [hx] at h; simp at h
 | some j => rw [hx] at h; simpa using h
theorem find_new (ns : List DNode) (k : Nat) (hk : k < ns.length) (h : findI ns k ns[k].name < 0) : findI ns (k + 1) ns[k].name = k:=by
 unfold findI at *
 rw [List.take_succ_eq_append_getElem hk,List.findIdx?_append]
 cases hx : (ns.take k).findIdx? (fun x => x.name.toList == ns[k].name.toList) with
 | some j => rw [hx] at h; simp at h; omega
 | none =>
  have : min k ns.length = k:=by omega
  simp [List.findIdx?_cons,this]
theorem find_other (ns : List DNode) (k : Nat) (s : ByteArray) (hk : k < ns.length) (h : findI ns k s < 0) (hs : s ≠ ns[k].name) : findI ns (k + 1) s < 0:=by
 have hne : (ns[k].name.toList == s.toList) = false:=by
  cases hb : (ns[k].name.toList == s.toList)
  ·rfl
  ·exact absurd ((name_eq _ _).1 hb) hs
 unfold findI at *
 rw [List.take_succ_eq_append_getElem hk,List.findIdx?_append]
 cases hx : (ns.take k).findIdx? (fun x => x.name.toList == s.toList) with
 | some j => rw [hx] at h; simp at h; omega
 | none => simp [List.findIdx?_cons,hne]
theorem find_back (ns : List DNode) (k i : Nat) (s : ByteArray) (hk : k < ns.length) (h : findI ns (k + 1) s = i) : findI ns k s = i ∨ (findI ns k s < 0 ∧ s = ns[k].name ∧ i = k):=by
 by_cases hf : findI ns k s < 0
 ·by_cases hs : s = ns[k].name
  ·subst hs
   have:=find_new ns k hk hf
   exact Or.inr ⟨hf,rfl,by omega⟩
  ·have:=find_other ns k s hk hf hs
   omega
 ·obtain ⟨j,hj⟩:=Int.eq_ofNat_of_zero_le (show 0 ≤ findI ns k s by omega)
  have:=find_old ns k j s hk hj
  refine Or.inl ?_
  rw [hj]
  omega
theorem ws_succ (ns : List DNode) (k : Nat) : wsTo ns (k + 1) = wsTo ns k ++ [match ns[k]? with | some n => ((wNodeTo ns k (wsTo ns k) n.eqs n.eqs.length : Nat) : Int) | none => 0]:=rfl
theorem ws_old (ns : List DNode) (k i : Nat) (hi : i < k) : (wsTo ns (k + 1)).getD i 0 = (wsTo ns k).getD i 0:=by
 rw [ws_succ,List.getD_eq_getElem?_getD,List.getD_eq_getElem?_getD,List.getElem?_append_left (by rw [wsTo_length]; exact hi)]
theorem ws_new (ns : List DNode) (k : Nat) (hk : k < ns.length) : (wsTo ns (k + 1)).getD k 0 = ((wNodeTo ns k (wsTo ns k) ns[k].eqs ns[k].eqs.length : Nat) : Int):=by
 rw [ws_succ,List.getD_eq_getElem?_getD,List.getElem?_append_right (by rw [wsTo_length]; omega),wsTo_length,List.getElem?_eq_getElem hk]
 simp
theorem LibAt.same {w : World} {B b o : Nat} {ns : List DNode} {k : Nat} (h : LibAt w B b o ns k) (hk : k < ns.length) (hf : ¬ findI ns k ns[k].name < 0) : LibAt w B b o ns (k + 1):=by
 obtain ⟨f,h1,h2,h3⟩:=h
 refine ⟨f,h1.mono (Nat.le_succ _),fun s hs => ?_,fun s i hi => ?_⟩
 ·by_cases hk2 : findI ns k s < 0
  ·exact h2 s hk2
  ·obtain ⟨j,hj⟩:=Int.eq_ofNat_of_zero_le (show 0 ≤ findI ns k s by omega)
   have:=find_old ns k j s hk hj
   omega
 ·rcases find_back ns k i s hk hi with hi | ⟨h4,rfl,_⟩
  ·have hb:=find_bd ns k s
   obtain ⟨m,a1,a2,a3,a4,a5⟩:=h3 s i hi
   exact ⟨m,a1,a2,a3,a4,by rw [ws_old ns k i (by omega)]; exact a5⟩
  ·exact absurd h4 hf
theorem LibAt.more {w w1 w2 : World} {B b o : Nat} {ns : List DNode} {k : Nat} (h : LibAt w1 B b o ns k) (hk : k < ns.length) (hf : findI ns k ns[k].name < 0) (hk2 : k < maxLen) (hs : ns[k].name.size ≤ maxLen) (T : TypeId)
  (hw : w = w1.alloc (.cells #[.pointer (some ⟨b,o + k * 5,none⟩),.int .i64 ((wNodeTo ns k (wsTo ns k) ns[k].eqs ns[k].eqs.length : Nat) : Int)] T)) :
  ∃ w2,(Instr.mapUpdate 40 (.map (some B)) (.string ns[k].name) (.pointer (some ⟨w1.heap.size,0,none⟩))).run Tryz.prog w = .ok () w2 ∧ LibAt w2 B b o ns (k + 1) ∧ Below B w1 w2 ∧ ∀ m j,m < w1.heap.size → m ≠ B → w2.cell? ⟨m,j,none⟩ = w1.cell? ⟨m,j,none⟩:=by
 obtain ⟨f,h1,h2,h3⟩:=h
 have hB:=h1.lt
 have hbl : Below w1.heap.size w1 w:=by rw [hw]; exact (Below.refl _ _).alloc (Nat.le_refl _) _
 obtain ⟨w2,f',hrun,hM,hfs,hfo,hg⟩:=(h1.below hbl).store (t:=40) Tryz.underlying9 Tryz.underlying40 hk2 hs (.pointer (some ⟨w1.heap.size,0,none⟩))
 have hsz : w.heap.size = w1.heap.size + 1:=by rw [hw]; simp
 have hcell : ∀ m j,m < w.heap.size → m ≠ B → w2.cell? ⟨m,j,none⟩ = w.cell? ⟨m,j,none⟩:=fun m j hm hne => World.cell?_of_block (hg.block m hm (by simpa using hne))
 refine ⟨w2,hrun,⟨f',hM,fun s hs => ?_,fun s i hi => ?_⟩,⟨hg.os.trans hbl.os,hg.tape.trans hbl.tape,hg.output.trans hbl.output,Nat.le_trans hbl.size hg.size,fun j hj => ?_⟩,fun m j hm hne => by rw [hcell m j (by omega) hne]; exact hbl.cell (p:=⟨m,j,none⟩) hm⟩
 ·have hne : s ≠ ns[k].name:=fun e => by
   subst e
   have:=find_new ns k hk hf
   omega
  rw [hfo s hne]
  by_cases hk2 : findI ns k s < 0
  ·exact h2 s hk2
  ·obtain ⟨j,hj⟩:=Int.eq_ofNat_of_zero_le (show 0 ≤ findI ns k s by omega)
   have:=find_old ns k j s hk hj
   omega
 ·rcases find_back ns k i s hk hi with hi | ⟨h4,rfl,rfl⟩
  ·have hb:=find_bd ns k s
   have hne : s ≠ ns[k].name:=fun e => by
    subst e
    omega
   obtain ⟨m,a1,a2,a3,a4,a5⟩:=h3 s i hi
   refine ⟨m,by rw [hfo s hne]; exact a1,a2,by have:=hg.size; omega,?_,?_⟩
   ·rw [hcell m 0 (by omega) a2,hbl.cell (p:=⟨m,0,none⟩) a3]; exact a4
   ·rw [hcell m 1 (by omega) a2,hbl.cell (p:=⟨m,1,none⟩) a3,ws_old ns k i (by omega)]; exact a5
  ·refine ⟨w1.heap.size,hfs,by omega,by have:=hg.size; omega,?_,?_⟩
   ·rw [hcell _ 0 (by omega) (by omega),hw]; simp
   ·rw [hcell _ 1 (by omega) (by omega),hw,ws_new ns _ hk]; simp
 ·rw [hg.block j (by omega) (by simp; omega)]
  exact hbl.block j (by omega)
set_option maxHeartbeats 1000000 in
theorem add_ok (ns : List DNode) (k : Nat) (hk : k < ns.length) (B b o : Nat) (w : World) (h : At 5 RNode w b (o + k * 5) ns[k]) (hL : LibAt w B b o ns k) (hS : NSmall ns[k]) (hE : ∀ e,e ∈ ns[k].eqs → e.call.size = 0 → findI ns k e.call < 0) (hk2 : k ≤ 200) :
  Calls Tryz.prog 16 #[.map (some B),.pointer (some ⟨b,o + k * 5,none⟩)] w fun e w' => e = .returned (.tuple #[]) ∧ LibAt w' B b o ns (k + 1) ∧ Below B w w':=by
 have HA:=hide h
 obtain ⟨hbl,cs,hl,hc,v1,v2,v3,v4,rfl,hs,_,_,_,h4⟩:=h
 have k0:=hc 0 (by simp)
 simp only [List.getElem_cons_zero,List.getElem_cons_succ,Nat.add_zero] at k0
 have hnm : ns[k].name.size ≤ maxLen:=by unfold Len at hs; unfold maxLen; omega
 have HL:=hide hL
 have HWT:=hide (fun w' (hb : Below w.heap.size w w') => weigh_ok ns k ns[k] B b o b (o + k * 5) w' ((uh HA).stays RNode_kept hb) (hL.below hb) hS hE)
 obtain ⟨f,hM,hM0,hM1⟩:=hL
 have hlk:=hM.look (t:=40) Tryz.underlying9 Tryz.underlying40 (zeroMem _) hnm
 by_cases hf : findI ns k ns[k].name < 0
 ·rw [hM0 _ hf] at hlk
  have HMORE:=hide (fun w' (hb : Below w.heap.size w w') w'' e => ((uh HL).below hb).more (w:=w'') (w2:=w'') hk hf (by unfold maxLen; omega) hnm 97 e)
  have HX : Hid (∀ w',Below w.heap.size w w' → ∃ w2,(Instr.mapUpdate 40 (.map (some B)) (.string ns[k].name) (.pointer (some ⟨w'.heap.size,0,none⟩))).run Tryz.prog (w'.alloc (.cells #[.pointer (some ⟨b,o + k * 5,none⟩),.int .i64 ((wNodeTo ns k (wsTo ns k) ns[k].eqs ns[k].eqs.length : Nat) : Int)] 97)) = .ok () w2 ∧ LibAt w2 B b o ns (k + 1) ∧ Below B w w2 ∧ w2.cell? ⟨b,o + k * 5,none⟩ = some (.string ns[k].name)):=fun w' hb => by
   obtain ⟨w2,r1,r2,r3,r4⟩:=uh HMORE w' hb _ rfl
   have hne : b ≠ B:=fun e => by
    subst e
    rw [hM.nocell] at k0
    cases k0
   exact ⟨w2,r1,r2,(hb.mono (Nat.le_of_lt hM.lt)).trans r3,by rw [r4 b _ (Nat.lt_of_lt_of_le hbl hb.size) hne,hb.cell (p:=⟨b,_,none⟩) hbl]; exact k0⟩
  have HW2 : Hid (Calls Tryz.prog 40 #[.map (some B),.pointer (some ⟨b,o + k * 5,none⟩)] w.drew fun e w' => e = .returned (.int .i64 ((wNodeTo ns k (wsTo ns k) ns[k].eqs ns[k].eqs.length : Nat) : Int)) ∧ Hid (Below w.heap.size w w') ∧ w'.cell? ⟨b,o + k * 5,none⟩ = some (.string ns[k].name)):=by
   refine (uh HWT w.drew ((Below.refl _ w).drew)).mono ?_
   rintro e w' ⟨rfl,h9⟩
   have h8 : Below w.heap.size w w':=((Below.refl _ w).drew).trans h9
   exact ⟨rfl,h8,by rw [h8.cell (p:=⟨b,_,none⟩) hbl]; exact k0⟩
  clear HMORE HWT hM hM0 hM1 HL HA hc hE hS
  generalize ns[k].name = nm at *
  generalize wNodeTo ns k (wsTo ns k) ns[k].eqs ns[k].eqs.length = wt at *
  go_enter Tryz.func16,Tryz.ntmps16
  go_wp2_with fail
  go_region_held3 (fun w' => w'.cell? ⟨b,o + k * 5,none⟩ = some (.string nm)) (go_keep) (first | (go_at_call 40; refine (uh HW2).mono ?_; rintro e w6 ⟨rfl,HB6,q1⟩; obtain ⟨w2,hr2,hr3,hr4,hr5⟩:=uh HX w6 (uh HB6)))
  go_end0
  exact ⟨rfl,hr3,hr4⟩
 ·have hfb:=find_bd ns k ns[k].name
  obtain ⟨i,hi⟩:=Int.eq_ofNat_of_zero_le (show 0 ≤ findI ns k ns[k].name by omega)
  obtain ⟨m,g1,g2,g3,g4,g5⟩:=hM1 _ i hi
  rw [g1] at hlk
  have HS:=hide ((uh HL).same hk hf)
  clear HWT hM hM0 hM1 HL HA hc hE hS g1 g4 g5
  generalize ns[k].name = nm at *
  go_enter Tryz.func16,Tryz.ntmps16
  go_wp2
  go_end0
  exact ⟨rfl,uh HS,Below.refl _ _⟩
set_option maxHeartbeats 400000 in
theorem everyVar_portOK_ok (p : DVar → Bool) (hf : ∀ (x : DVar) cs w,RVar 0 w cs x → Calls Tryz.prog 58 #[valOfVar cs] w (Ans (.bool (p x)) w)) (xs : List DVar) (v : Value) (w : World) (hv : SlAt 3 48 RVar 0 w v xs) :
  Calls Tryz.prog 57 #[v,.func (.func 58) #[] #[]] w (Ans (.bool (xs.all p)) w):=by
 obtain ⟨a,cap,rfl,_,hn,hx⟩:=hv
 unfold Len at hn
 have HX:=hide hx
 have HFN:=hide hf
 clear hx hf
 go_enter Tryz.func57,Tryz.ntmps57
 go_wp2
 go_loopg [6,9] xs.length (fun g x i wr => ∃ (k : Nat),k ≤ xs.length ∧ g = xs.length - k ∧ i = .int .i64 k ∧ Below w.heap.size w wr ∧ ∀ j (h : j < xs.length),j < k → p xs[j] = true)
 case atStart => exact ⟨0,Nat.zero_le _,by omega,rfl,Below.refl _ _,fun j _ h => absurd h (Nat.not_lt_zero _)⟩
 case round =>
  obtain ⟨k,hk,hg,rfl,hbl,hall⟩:=hrel
  have HG:=hide hg
  have HA:=hide hall
  clear hg hall
  by_cases hlt : k < xs.length
  ·obtain ⟨b,o,cs,rfl,_,hb,hcs,hc,hR⟩:=uh HX k hlt
   have hR:=RVar_kept.stays _ _ _ _ _ hbl hR
   have hc : ∀ j (hj : j < cs.length),wr.cell? ⟨b,o + k * 3 + j,none⟩ = some cs[j]:=fun j hj => by rw [hbl.cell (p:=⟨b,_,none⟩) hb]; exact hc j hj
   have hcall:=fun ob => uh HFN xs[k] cs (wr.alloc ob) (RVar_kept.stays _ _ _ _ _ ((Below.refl _ _).alloc (Nat.le_refl _) ob) hR)
   obtain ⟨cl,rfl,hsn,hty,g1⟩:=hR
   obtain ⟨aa1,ca1,rfl⟩:=g1.shape
   clear g1
   have c0:=hc 0 (by simp)
   have c1:=hc 1 (by simp)
   have c2:=hc 2 (by simp)
   simp only [Nat.mul_one,Nat.add_zero,List.getElem_cons_zero,List.getElem_cons_succ] at c0 c1 c2
   simp only [valOfVar,List.headD_cons] at hcall
   have HC:=hide hcall
   clear hc hcs hcall
   cases hp : p xs[k]
   ·have F : xs.all p = false:=by
     rw [List.all_eq_false]
     exact ⟨xs[k],List.getElem_mem hlt,by rw [hp]; decide⟩
    have HF:=hide F
    clear F
    go_wp2_with fail
    refine (uh HC _).mono ?_
    rintro e w1 ⟨rfl,hb1⟩
    rw [hp]
    go_wp2
    go_ret
    exact ⟨ret_bool (uh HF).symm,hbl.trans (((Below.refl _ _).alloc hbl.size _).trans (hb1.mono (Nat.le_trans hbl.size (by simp))))⟩
   ·have A' : ∀ j (h : j < xs.length),j < k + 1 → p xs[j] = true:=by
     intro j h h1
     by_cases e : j = k
     ·subst e; exact hp
     ·exact uh HA j h (by omega)
    have HA':=hide A'
    clear A'
    go_wp2_with fail
    refine (uh HC _).mono ?_
    rintro e w1 ⟨rfl,hb1⟩
    rw [hp]
    go_wp2
    go_roundg (xs.length - (k + 1))
    case measure => have:=uh HG; omega
    case rel => exact ⟨k + 1,by omega,rfl,by go_num,hbl.trans (((Below.refl _ _).alloc hbl.size _).trans (hb1.mono (Nat.le_trans hbl.size (by simp)))),uh HA'⟩
  ·have e : k = xs.length:=by omega
   have T : xs.all p = true:=by
    rw [List.all_eq_true]
    intro x hx
    obtain ⟨j,hj,rfl⟩:=List.getElem_of_mem hx
    exact uh HA j hj (by omega)
   have HT:=hide T
   clear T
   go_wp2
   go_ret
   exact ⟨ret_bool (uh HT).symm,hbl⟩
set_option maxHeartbeats 400000 in
theorem everyVar_varOK_ok (p : DVar → Bool) (hf : ∀ (x : DVar) cs w,RVar 0 w cs x → Calls Tryz.prog 59 #[valOfVar cs] w (Ans (.bool (p x)) w)) (xs : List DVar) (v : Value) (w : World) (hv : SlAt 3 48 RVar 0 w v xs) :
  Calls Tryz.prog 57 #[v,.func (.func 59) #[] #[]] w (Ans (.bool (xs.all p)) w):=by
 obtain ⟨a,cap,rfl,_,hn,hx⟩:=hv
 unfold Len at hn
 have HX:=hide hx
 have HFN:=hide hf
 clear hx hf
 go_enter Tryz.func57,Tryz.ntmps57
 go_wp2
 go_loopg [6,9] xs.length (fun g x i wr => ∃ (k : Nat),k ≤ xs.length ∧ g = xs.length - k ∧ i = .int .i64 k ∧ Below w.heap.size w wr ∧ ∀ j (h : j < xs.length),j < k → p xs[j] = true)
 case atStart => exact ⟨0,Nat.zero_le _,by omega,rfl,Below.refl _ _,fun j _ h => absurd h (Nat.not_lt_zero _)⟩
 case round =>
  obtain ⟨k,hk,hg,rfl,hbl,hall⟩:=hrel
  have HG:=hide hg
  have HA:=hide hall
  clear hg hall
  by_cases hlt : k < xs.length
  ·obtain ⟨b,o,cs,rfl,_,hb,hcs,hc,hR⟩:=uh HX k hlt
   have hR:=RVar_kept.stays _ _ _ _ _ hbl hR
   have hc : ∀ j (hj : j < cs.length),wr.cell? ⟨b,o + k * 3 + j,none⟩ = some cs[j]:=fun j hj => by rw [hbl.cell (p:=⟨b,_,none⟩) hb]; exact hc j hj
   have hcall:=fun ob => uh HFN xs[k] cs (wr.alloc ob) (RVar_kept.stays _ _ _ _ _ ((Below.refl _ _).alloc (Nat.le_refl _) ob) hR)
   obtain ⟨cl,rfl,hsn,hty,g1⟩:=hR
   obtain ⟨aa1,ca1,rfl⟩:=g1.shape
   clear g1
   have c0:=hc 0 (by simp)
   have c1:=hc 1 (by simp)
   have c2:=hc 2 (by simp)
   simp only [Nat.mul_one,Nat.add_zero,List.getElem_cons_zero,List.getElem_cons_succ] at c0 c1 c2
   simp only [valOfVar,List.headD_cons] at hcall
   have HC:=hide hcall
   clear hc hcs hcall
   cases hp : p xs[k]
   ·have F : xs.all p = false:=by
     rw [List.all_eq_false]
     exact ⟨xs[k],List.getElem_mem hlt,by rw [hp]; decide⟩
    have HF:=hide F
    clear F
    go_wp2_with fail
    refine (uh HC _).mono ?_
    rintro e w1 ⟨rfl,hb1⟩
    rw [hp]
    go_wp2
    go_ret
    exact ⟨ret_bool (uh HF).symm,hbl.trans (((Below.refl _ _).alloc hbl.size _).trans (hb1.mono (Nat.le_trans hbl.size (by simp))))⟩
   ·have A' : ∀ j (h : j < xs.length),j < k + 1 → p xs[j] = true:=by
     intro j h h1
     by_cases e : j = k
     ·subst e; exact hp
     ·exact uh HA j h (by omega)
    have HA':=hide A'
    clear A'
    go_wp2_with fail
    refine (uh HC _).mono ?_
    rintro e w1 ⟨rfl,hb1⟩
    rw [hp]
    go_wp2
    go_roundg (xs.length - (k + 1))
    case measure => have:=uh HG; omega
    case rel => exact ⟨k + 1,by omega,rfl,by go_num,hbl.trans (((Below.refl _ _).alloc hbl.size _).trans (hb1.mono (Nat.le_trans hbl.size (by simp)))),uh HA'⟩
  ·have e : k = xs.length:=by omega
   have T : xs.all p = true:=by
    rw [List.all_eq_true]
    intro x hx
    obtain ⟨j,hj,rfl⟩:=List.getElem_of_mem hx
    exact uh HA j hj (by omega)
   have HT:=hide T
   clear T
   go_wp2
   go_ret
   exact ⟨ret_bool (uh HT).symm,hbl⟩
set_option maxHeartbeats 400000 in
theorem everyEq_equationOK_ok (p : DEq → Bool) (hf : ∀ (x : DEq) cs w,REq 0 w cs x → Calls Tryz.prog 61 #[valOfEq cs] w (Ans (.bool (p x)) w)) (xs : List DEq) (v : Value) (w : World) (hv : SlAt 4 88 REq 0 w v xs) :
  Calls Tryz.prog 60 #[v,.func (.func 61) #[] #[]] w (Ans (.bool (xs.all p)) w):=by
 obtain ⟨a,cap,rfl,_,hn,hx⟩:=hv
 unfold Len at hn
 have HX:=hide hx
 have HFN:=hide hf
 clear hx hf
 go_enter Tryz.func60,Tryz.ntmps60
 go_wp2
 go_loopg [6,9] xs.length (fun g x i wr => ∃ (k : Nat),k ≤ xs.length ∧ g = xs.length - k ∧ i = .int .i64 k ∧ Below w.heap.size w wr ∧ ∀ j (h : j < xs.length),j < k → p xs[j] = true)
 case atStart => exact ⟨0,Nat.zero_le _,by omega,rfl,Below.refl _ _,fun j _ h => absurd h (Nat.not_lt_zero _)⟩
 case round =>
  obtain ⟨k,hk,hg,rfl,hbl,hall⟩:=hrel
  have HG:=hide hg
  have HA:=hide hall
  clear hg hall
  by_cases hlt : k < xs.length
  ·obtain ⟨b,o,cs,rfl,_,hb,hcs,hc,hR⟩:=uh HX k hlt
   have hR:=REq_kept.stays _ _ _ _ _ hbl hR
   have hc : ∀ j (hj : j < cs.length),wr.cell? ⟨b,o + k * 4 + j,none⟩ = some cs[j]:=fun j hj => by rw [hbl.cell (p:=⟨b,_,none⟩) hb]; exact hc j hj
   have hcall:=fun ob => uh HFN xs[k] cs (wr.alloc ob) (REq_kept.stays _ _ _ _ _ ((Below.refl _ _).alloc (Nat.le_refl _) ob) hR)
   obtain ⟨l,c,aa,rfl,hsn,g1,g2,g3⟩:=hR
   obtain ⟨aa1,ca1,rfl⟩:=g1.shape
   clear g1
   obtain ⟨aa2,ca2,rfl⟩:=g2.shape
   clear g2
   obtain ⟨aa3,ca3,rfl⟩:=g3.shape
   clear g3
   have c0:=hc 0 (by simp)
   have c1:=hc 1 (by simp)
   have c2:=hc 2 (by simp)
   have c3:=hc 3 (by simp)
   simp only [Nat.mul_one,Nat.add_zero,List.getElem_cons_zero,List.getElem_cons_succ] at c0 c1 c2 c3
   simp only [valOfEq,List.headD_cons] at hcall
   have HC:=hide hcall
   clear hc hcs hcall
   cases hp : p xs[k]
   ·have F : xs.all p = false:=by
     rw [List.all_eq_false]
     exact ⟨xs[k],List.getElem_mem hlt,by rw [hp]; decide⟩
    have HF:=hide F
    clear F
    go_wp2_with fail
    refine (uh HC _).mono ?_
    rintro e w1 ⟨rfl,hb1⟩
    rw [hp]
    go_wp2
    go_ret
    exact ⟨ret_bool (uh HF).symm,hbl.trans (((Below.refl _ _).alloc hbl.size _).trans (hb1.mono (Nat.le_trans hbl.size (by simp))))⟩
   ·have A' : ∀ j (h : j < xs.length),j < k + 1 → p xs[j] = true:=by
     intro j h h1
     by_cases e : j = k
     ·subst e; exact hp
     ·exact uh HA j h (by omega)
    have HA':=hide A'
    clear A'
    go_wp2_with fail
    refine (uh HC _).mono ?_
    rintro e w1 ⟨rfl,hb1⟩
    rw [hp]
    go_wp2
    go_roundg (xs.length - (k + 1))
    case measure => have:=uh HG; omega
    case rel => exact ⟨k + 1,by omega,rfl,by go_num,hbl.trans (((Below.refl _ _).alloc hbl.size _).trans (hb1.mono (Nat.le_trans hbl.size (by simp)))),uh HA'⟩
  ·have e : k = xs.length:=by omega
   have T : xs.all p = true:=by
    rw [List.all_eq_true]
    intro x hx
    obtain ⟨j,hj,rfl⟩:=List.getElem_of_mem hx
    exact uh HA j hj (by omega)
   have HT:=hide T
   clear T
   go_wp2
   go_ret
   exact ⟨ret_bool (uh HT).symm,hbl⟩
set_option maxHeartbeats 400000 in
theorem everyNode_nodeOK_ok (p : DNode → Bool) (hf : ∀ (x : DNode) cs w,RNode 0 w cs x → Calls Tryz.prog 32 #[valOfNode cs] w (Ans (.bool (p x)) w)) (xs : List DNode) (v : Value) (w : World) (hv : SlAt 5 112 RNode 0 w v xs) :
  Calls Tryz.prog 31 #[v,.func (.func 32) #[] #[]] w (Ans (.bool (xs.all p)) w):=by
 obtain ⟨a,cap,rfl,_,hn,hx⟩:=hv
 unfold Len at hn
 have HX:=hide hx
 have HFN:=hide hf
 clear hx hf
 go_enter Tryz.func31,Tryz.ntmps31
 go_wp2
 go_loopg [6,9] xs.length (fun g x i wr => ∃ (k : Nat),k ≤ xs.length ∧ g = xs.length - k ∧ i = .int .i64 k ∧ Below w.heap.size w wr ∧ ∀ j (h : j < xs.length),j < k → p xs[j] = true)
 case atStart => exact ⟨0,Nat.zero_le _,by omega,rfl,Below.refl _ _,fun j _ h => absurd h (Nat.not_lt_zero _)⟩
 case round =>
  obtain ⟨k,hk,hg,rfl,hbl,hall⟩:=hrel
  have HG:=hide hg
  have HA:=hide hall
  clear hg hall
  by_cases hlt : k < xs.length
  ·obtain ⟨b,o,cs,rfl,_,hb,hcs,hc,hR⟩:=uh HX k hlt
   have hR:=RNode_kept.stays _ _ _ _ _ hbl hR
   have hc : ∀ j (hj : j < cs.length),wr.cell? ⟨b,o + k * 5 + j,none⟩ = some cs[j]:=fun j hj => by rw [hbl.cell (p:=⟨b,_,none⟩) hb]; exact hc j hj
   have hcall:=fun ob => uh HFN xs[k] cs (wr.alloc ob) (RNode_kept.stays _ _ _ _ _ ((Below.refl _ _).alloc (Nat.le_refl _) ob) hR)
   obtain ⟨ni,no,nv,ne,rfl,hsn,g1,g2,g3,g4⟩:=hR
   obtain ⟨aa1,ca1,rfl⟩:=g1.shape
   clear g1
   obtain ⟨aa2,ca2,rfl⟩:=g2.shape
   clear g2
   obtain ⟨aa3,ca3,rfl⟩:=g3.shape
   clear g3
   obtain ⟨aa4,ca4,rfl⟩:=g4.shape
   clear g4
   have c0:=hc 0 (by simp)
   have c1:=hc 1 (by simp)
   have c2:=hc 2 (by simp)
   have c3:=hc 3 (by simp)
   have c4:=hc 4 (by simp)
   simp only [Nat.mul_one,Nat.add_zero,List.getElem_cons_zero,List.getElem_cons_succ] at c0 c1 c2 c3 c4
   simp only [valOfNode,List.headD_cons] at hcall
   have HC:=hide hcall
   clear hc hcs hcall
   cases hp : p xs[k]
   ·have F : xs.all p = false:=by
     rw [List.all_eq_false]
     exact ⟨xs[k],List.getElem_mem hlt,by rw [hp]; decide⟩
    have HF:=hide F
    clear F
    go_wp2_with fail
    refine (uh HC _).mono ?_
    rintro e w1 ⟨rfl,hb1⟩
    rw [hp]
    go_wp2
    go_ret
    exact ⟨ret_bool (uh HF).symm,hbl.trans (((Below.refl _ _).alloc hbl.size _).trans (hb1.mono (Nat.le_trans hbl.size (by simp))))⟩
   ·have A' : ∀ j (h : j < xs.length),j < k + 1 → p xs[j] = true:=by
     intro j h h1
     by_cases e : j = k
     ·subst e; exact hp
     ·exact uh HA j h (by omega)
    have HA':=hide A'
    clear A'
    go_wp2_with fail
    refine (uh HC _).mono ?_
    rintro e w1 ⟨rfl,hb1⟩
    rw [hp]
    go_wp2
    go_roundg (xs.length - (k + 1))
    case measure => have:=uh HG; omega
    case rel => exact ⟨k + 1,by omega,rfl,by go_num,hbl.trans (((Below.refl _ _).alloc hbl.size _).trans (hb1.mono (Nat.le_trans hbl.size (by simp)))),uh HA'⟩
  ·have e : k = xs.length:=by omega
   have T : xs.all p = true:=by
    rw [List.all_eq_true]
    intro x hx
    obtain ⟨j,hj,rfl⟩:=List.getElem_of_mem hx
    exact uh HA j hj (by omega)
   have HT:=hide T
   clear T
   go_wp2
   go_ret
   exact ⟨ret_bool (uh HT).symm,hbl⟩
theorem hName (x : ByteArray) (cs : List Value) (w : World) (h : RStr 0 w cs x) : Calls Tryz.prog 56 #[valOfStr cs] w (Ans (.bool (nameB x)) w):=by
 obtain ⟨rfl,h0⟩:=h
 exact nameOK_ok x w h0
theorem hCode (x : List DItem) (cs : List Value) (w : World) (h : RItems 0 w cs x) : Calls Tryz.prog 87 #[valOfItems cs] w (Ans (.bool (cdB x)) w):=by
 obtain ⟨v,rfl,h0⟩:=h
 exact codeOK_ok x v w h0
set_option maxHeartbeats 400000 in
theorem condOK_ok (c : DCond) (w : World) (hs : Len c.name.size) :
  Calls Tryz.prog 85 #[.agg #[.string c.name,.bool c.on]] w (Ans (.bool (condB c)) w):=by
 obtain ⟨s,on⟩:=c
 simp only [condB] at *
 go_enter Tryz.func85,Tryz.ntmps85
 go_wp2_with fail
 refine (nameOK_ok s _ hs).mono ?_
 rintro e w1 ⟨rfl,hb⟩
 go_wp2
 go_ret
 exact ⟨rfl,((Below.refl _ _).alloc (Nat.le_refl _) _).trans (hb.mono (by simp))⟩
theorem hCond (x : DCond) (cs : List Value) (w : World) (h : RCond 0 w cs x) : Calls Tryz.prog 85 #[valOfCond cs] w (Ans (.bool (condB x)) w):=by
 obtain ⟨rfl,h0⟩:=h
 exact condOK_ok x w h0
set_option maxHeartbeats 1000000 in
theorem varOK_ok (x : DVar) (cl : Value) (w : World) (hs : Len x.name.size) (hcl : SlAt 2 24 RCond 0 w cl x.clock) :
  Calls Tryz.prog 59 #[.agg #[.string x.name,.int .i64 x.type,cl]] w (Ans (.bool (varB x)) w):=by
 obtain ⟨s,ty,clk⟩:=x
 simp only [varB] at *
 have HC:=hide hcl
 obtain ⟨ac,cc,rfl⟩:=hcl.shape
 obtain ⟨_,_,_,_,hn,_⟩:=hcl
 unfold Len at hn
 have B0:=hide ((Below.refl w.heap.size w).alloc (Nat.le_refl _) (.cells #[.string s,.int .i64 ty,.slice ac clk.length cc] 63))
 cases hnm : nameB s
 ·rw [Bool.false_and,Bool.false_and,Bool.false_and]
  go_enter Tryz.func59,Tryz.ntmps59
  go_wp2_with fail
  refine (nameOK_ok s _ hs).mono ?_
  rintro e w1 ⟨rfl,hb⟩
  obtain ⟨hc1,hf1⟩:=bcell hb
  have hz:=hb.size
  have B1 : Hid (Below w.heap.size w w1):=(uh B0).trans (hb.mono (uh B0).size)
  try simp only [World.size_alloc] at hz hc1 hf1
  have hza1 : w.heap.size < w1.heap.size:=by first | omega | (simp at hz; omega)
  clear hb hz
  rw [hnm]
  go_wp2
  go_ret
  exact ⟨rfl,uh B1⟩
 by_cases hty : ty = 1 ∨ ty = 2
 case neg =>
  have e : decide (ty = 1 ∨ ty = 2) = false:=by simpa using hty
  rw [e]
  simp only [Bool.true_and,Bool.false_and]
  have HTY:=typeOK_ok ty
  rw [e] at HTY
  have HTY:=hide HTY
  clear e hty
  go_enter Tryz.func59,Tryz.ntmps59
  go_wp2_with fail
  refine (nameOK_ok s _ hs).mono ?_
  rintro e w1 ⟨rfl,hb⟩
  obtain ⟨hc1,hf1⟩:=bcell hb
  have hz:=hb.size
  have B1 : Hid (Below w.heap.size w w1):=(uh B0).trans (hb.mono (uh B0).size)
  try simp only [World.size_alloc] at hz hc1 hf1
  have hza1 : w.heap.size < w1.heap.size:=by first | omega | (simp at hz; omega)
  clear hb hz
  rw [hnm]
  go_wp2_with fail
  refine (uh HTY _).mono ?_
  rintro e w9 ⟨rfl,rfl⟩
  go_wp2
  go_ret
  exact ⟨rfl,uh B1⟩
 have e : decide (ty = 1 ∨ ty = 2) = true:=by simpa using hty
 rw [e]
 simp only [Bool.true_and]
 have HTY:=typeOK_ok ty
 rw [e] at HTY
 have HTY:=hide HTY
 clear e hty
 by_cases h8 : clk.length ≤ 8
 ·have e : decide (clk.length ≤ 8) = true:=by simpa using h8
  rw [e,Bool.true_and]
  have d8 : decide ((clk.length : Int) ≤ 8) = true:=by simp; omega
  clear e
  skip
  all_goals
   go_enter Tryz.func59,Tryz.ntmps59
   go_wp2_with fail
   refine (nameOK_ok s _ hs).mono ?_
   rintro e w1 ⟨rfl,hb⟩
   obtain ⟨hc1,hf1⟩:=bcell hb
   have hz:=hb.size
   have B1 : Hid (Below w.heap.size w w1):=(uh B0).trans (hb.mono (uh B0).size)
   try simp only [World.size_alloc] at hz hc1 hf1
   have hza1 : w.heap.size < w1.heap.size:=by first | omega | (simp at hz; omega)
   clear hb hz
   rw [hnm]
   go_wp2_with fail
   refine (uh HTY _).mono ?_
   rintro e w9 ⟨rfl,rfl⟩
   go_wp2_with fail
   refine (everyCond_condOK_ok condB hCond clk _ _ ((uh HC).stays RCond_kept (uh B1))).mono ?_
   rintro e w2 ⟨rfl,hb2⟩
   go_wp2
   go_ret
   exact ⟨rfl,(uh B1).trans (hb2.mono (uh B1).size)⟩
 ·have e : decide (clk.length ≤ 8) = false:=by simpa using h8
  rw [e,Bool.false_and]
  have d8 : decide ((clk.length : Int) ≤ 8) = false:=by simp; omega
  clear e
  skip
  all_goals
   go_enter Tryz.func59,Tryz.ntmps59
   go_wp2_with fail
   refine (nameOK_ok s _ hs).mono ?_
   rintro e w1 ⟨rfl,hb⟩
   obtain ⟨hc1,hf1⟩:=bcell hb
   have hz:=hb.size
   have B1 : Hid (Below w.heap.size w w1):=(uh B0).trans (hb.mono (uh B0).size)
   try simp only [World.size_alloc] at hz hc1 hf1
   have hza1 : w.heap.size < w1.heap.size:=by first | omega | (simp at hz; omega)
   clear hb hz
   rw [hnm]
   go_wp2_with fail
   refine (uh HTY _).mono ?_
   rintro e w9 ⟨rfl,rfl⟩
   go_wp2
   go_ret
   exact ⟨rfl,uh B1⟩
theorem hVar (x : DVar) (cs : List Value) (w : World) (h : RVar 0 w cs x) : Calls Tryz.prog 59 #[valOfVar cs] w (Ans (.bool (varB x)) w):=by
 obtain ⟨cl,rfl,h0,_,h1⟩:=h
 exact varOK_ok x cl w h0 h1
set_option maxHeartbeats 1000000 in
theorem portOK_ok (x : DVar) (cl : Value) (w : World) (hs : Len x.name.size) (hcl : SlAt 2 24 RCond 0 w cl x.clock) :
  Calls Tryz.prog 58 #[.agg #[.string x.name,.int .i64 x.type,cl]] w (Ans (.bool (portB x)) w):=by
 have HV:=hide (fun w' (h : Below w.heap.size w w') => varOK_ok x cl w' hs (hcl.stays RCond_kept h))
 simp only [portB]
 generalize varB x = vb at *
 obtain ⟨s,ty,clk⟩:=x
 simp only at *
 obtain ⟨ac,cc,rfl⟩:=hcl.shape
 obtain ⟨_,_,_,_,hn,_⟩:=hcl
 unfold Len at hn
 have B0:=hide ((Below.refl w.heap.size w).alloc (Nat.le_refl _) (.cells #[.string s,.int .i64 ty,.slice ac clk.length cc] 63))
 by_cases h0 : clk.length = 0
 ·have e : decide (clk.length = 0) = true:=by simpa using h0
  rw [e,Bool.true_and]
  have d0 : ((clk.length : Int) == 0) = true:=by rw [beq_iff_eq]; omega
  clear e h0
  go_enter Tryz.func58,Tryz.ntmps58
  go_wp2_with fail
  refine (uh HV _ (uh B0)).mono ?_
  rintro e w1 ⟨rfl,hb⟩
  go_wp2
  go_ret
  exact ⟨rfl,(uh B0).trans (hb.mono (uh B0).size)⟩
 ·have e : decide (clk.length = 0) = false:=by simpa using h0
  rw [e,Bool.false_and]
  have d0 : ((clk.length : Int) == 0) = false:=by rw [beq_eq_false_iff_ne]; omega
  clear e h0
  go_enter Tryz.func58,Tryz.ntmps58
  go_wp2
  go_ret
  exact ⟨rfl,uh B0⟩
theorem hPort (x : DVar) (cs : List Value) (w : World) (h : RVar 0 w cs x) : Calls Tryz.prog 58 #[valOfVar cs] w (Ans (.bool (portB x)) w):=by
 obtain ⟨cl,rfl,h0,_,h1⟩:=h
 exact portOK_ok x cl w h0 h1
end Go.Proofs.YtfioeoihociilaaGreat
