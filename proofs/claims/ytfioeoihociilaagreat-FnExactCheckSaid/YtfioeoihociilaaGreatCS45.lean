import Derived.Test.YtfioeoihociilaaGreatCS44
import Derived.Test.YtfioeoihociilaaGreatImplB
import Derived.Test.YtfioeoihociilaaGreatData
import Derived.Test.YtfioeoihociilaaGreatToE
import Derived.Test.YtfioeoihociilaaGreatProg
import Derived.ProofKit
import Derived.ChangeOld
import Derived.SizedLaws
import Derived.Deep.Slices
namespace Go.Proofs.YtfioeoihociilaaGreat
open Go.RowKit
set_option linter.unusedSimpArgs false
set_option linter.unusedVariables false
set_option maxRecDepth 20000 in
set_option maxHeartbeats 8000000 in
theorem implCheck_ok (ns : List DNode) (v : Value) (w : World) (h1 : SlAt 5 112 RNode 0 w v ns) :
  Calls Tryz.prog 7 #[.agg #[v]] w fun e w' => e = .returned (.tuple #[.int .i64 (checkF ns).1,.int .i64 (checkF ns).2.1,.int .i64 (checkF ns).2.2]) ∧ Below w.heap.size w w':=by
 obtain ⟨b0,c0,rfl⟩:=h1.shape
 have n1:=h1.len'
 have B0:=hide ((Below.refl w.heap.size w).alloc (Nat.le_refl _) (.cells #[.slice b0 ns.length c0] 30))
 have HSH:=hide (implShape_ok ns _ _ (h1.stays RNode_kept (uh B0)))
 have H1:=hide h1
 clear h1
 cases hsh : shapeB ns
 ·have HR : Hid (checkF ns = (1,0,0)):=by
   show checkF ns = (1,0,0)
   unfold checkF
   rw [if_pos hsh]
  have HS0:=uh HSH
  rw [hsh] at HS0
  have HS1:=hide HS0
  have k0:=(blk_box w #[.slice b0 ns.length c0] 30).cell (i:=0) (v:=.slice b0 ns.length c0) rfl
  clear HS0 HSH hsh
  generalize checkF ns = R at *
  go_enter Tryz.func7,Tryz.ntmps7
  go_wp2_with fail
  refine (uh HS1).mono ?_
  rintro e w1 ⟨rfl,hb1⟩
  have BB : Hid (Below w.heap.size w w1):=(uh B0).trans (hb1.mono (uh B0).size)
  clear hb1
  go_wp2
  go_ret3
  exact ⟨ret_three (uh HR),uh BB⟩
 ·have hnb : ∀ n,n ∈ ns → nodeB n = true:=fun n hn => by
   have h9:=hsh
   unfold shapeB at h9
   rw [Bool.and_eq_true] at h9
   exact List.all_eq_true.1 h9.2 n hn
  have hsl:=shape_len2 ns hsh
  have hl1 : 1 ≤ ns.length:=by
   have h9:=hsh
   unfold shapeB at h9
   simp only [Bool.and_eq_true,decide_eq_true_iff] at h9
   exact h9.1.1
  obtain ⟨b,o,cz,hv,_⟩:=(uh H1).at' 0 (by omega)
  simp only [Value.slice.injEq] at hv
  obtain ⟨rfl,hq9,rfl⟩:=hv
  clear hq9
  have HAT : Hid (∀ i (h : i < ns.length),At 5 RNode w b (o + i * 5) ns[i]):=fun i h => by
   obtain ⟨b',o',c',hv,ha⟩:=(uh H1).at' i h
   simp only [Value.slice.injEq,Option.some.injEq,Addr.mk.injEq] at hv
   obtain ⟨⟨rfl,rfl,_⟩,_,_⟩:=hv
   exact ha
  have HNF : Hid (∀ i (h : i < ns.length),nodeF ns i = nodeP ⟨Classical.propDecidable⟩ ns i ns[i]):=fun i h => by rw [nodeF_at ns i h,node_eq ⟨Classical.propDecidable⟩ h hnb]
  have HRS : Hid (∀ i,i < ns.length → ((nodeF ns i).1 != 0) = true → (∀ j,j < i → ((nodeF ns j).1 != 0) = false) → checkF ns = ((nodeF ns i).1,(i : Int),(nodeF ns i).2)):=fun i hi h h' => by
   unfold checkF
   rw [if_neg (by rw [hsh]; simp),first_hit hi h h']
  have HRN : Hid ((∀ j,j < ns.length → ((nodeF ns j).1 != 0) = false) → checkF ns = (0,0,0)):=fun h => by
   unfold checkF
   rw [if_neg (by rw [hsh]; simp),first_none h]
  have HSM:=hide (shape_nsmall ns hsh)
  have HFN:=hide (find_none ns (shape_name ns hsh))
  have HNB:=hide hnb
  have HS0:=uh HSH
  rw [hsh] at HS0
  have HS1:=hide HS0
  have hmm:=@run_makeMap Tryz.prog
  clear HS0 HSH hsh hnb
  generalize checkF ns = R at *
  go_enter Tryz.func7,Tryz.ntmps7
  go_wp2_with fail
  refine (uh HS1).mono ?_
  rintro e w1 ⟨rfl,hb1⟩
  have HBX1:=hide (box_of hb1)
  have HBD : Hid (∀ w',Below w1.heap.size w1 w' → Below w.heap.size w w' ∧ w'.cell? ⟨w.heap.size,0,none⟩ = some (.slice (some ⟨b,o,none⟩) ns.length c0)):=fun w' hb => by
   have h2 : Below (w.heap.size + 1) (w.alloc (.cells #[.slice (some ⟨b,o,none⟩) ns.length c0] 30)) w':=(uh HBX1).trans (hb.mono (by have:=(uh HBX1).size; simpa using this))
   exact ⟨(uh B0).trans (h2.mono (Nat.le_succ _)),by rw [box_cell (B:=0) h2 0]; rfl⟩
  have BM:=hide ((Below.refl w1.heap.size w1).alloc (Nat.le_refl _) (.map #[] 0))
  have k1:=(uh HBD _ (uh BM)).2
  have HL0:=hide (lib_none w1 b o ns)
  clear hb1 HS1
  go_wp2
  clear k1 hmm
  go_loopg [18] ns.length (fun g i' wr => ∃ (i : Nat),i ≤ ns.length ∧ g = ns.length - i ∧ i' = .int .i64 i ∧ (∀ j,j < i → ((nodeF ns j).1 != 0) = false) ∧ Below w1.heap.size w1 wr ∧ LibAt wr w1.heap.size b o ns i)
  case atStart => exact ⟨0,Nat.zero_le _,by omega,rfl,fun j hj => absurd hj (Nat.not_lt_zero _),uh BM,uh HL0⟩
  case round =>
   obtain ⟨i,hi,hg,rfl,hno,hb,hlib⟩:=hrel
   rename World => wr
   have HG:=hide hg
   have HNO:=hide hno
   have HB:=hide hb
   have HLIB:=hide hlib
   obtain ⟨hbw,k1⟩:=uh HBD wr hb
   have HBW:=hide hbw
   clear hg hno HL0 BM
   by_cases hlt : i < ns.length
   case neg =>
    have e : i = ns.length:=by omega
    subst e
    have HR:=hide (uh HRN (uh HNO))
    have hkI : ¬ (ns.length : Int) < (ns.length : Int):=by omega
    have HFIN : Hid (Below w.heap.size w wr):=hbw
    clear hb hlib hbw
    go_wp2
    go_ret3
    exact ⟨ret_three (uh HR),uh HFIN⟩
   have hat:=(uh HAT i hlt).stays RNode_kept hbw
   have hatA : ∀ j (hj : j < ns.length),At 5 RNode wr b (o + j * 5) ns[j]:=fun j hj => (uh HAT j hj).stays RNode_kept hbw
   have hxb:=uh HNB _ (List.getElem_mem hlt)
   have hn5:=((node_iff ns[i]).1 hxb).1
   have hvl : (allV ns[i]).length ≤ 500:=by
    unfold allV
    rw [List.length_append,List.length_append]
    exact hn5.2.1
   have HNS:=hide (newScope_ok wr ns[i] b (o + i * 5) hat (fun v hv => by have:=((var_iff v).1 (node_vars hxb v hv)).2.2.1; omega) (by omega))
   have HEE : Hid (∀ e,e ∈ ns[i].eqs → e.call.size = 0 → findI ns i e.call < 0):=fun e _ hc => uh HFN i e.call hc
   have HCHK : Hid (∀ sb vb ov D C L N w2,Sc wr w2 (.pointer (some ⟨b,o + i * 5,none⟩)) .nilFunc (allV ns[i]) (giv0 ns[i]) sb vb ov D C L N → N ≤ 1000 * (allV ns[i]).length → Calls Tryz.prog 15 #[.pointer (some ⟨w2.heap.size,0,none⟩)] (w2.alloc (.cells #[.pointer (some ⟨sb,0,none⟩),.map (some w1.heap.size)] 50)) fun e w' => e = .returned (.tuple #[.int .i64 (nodeF ns i).1,.int .i64 (nodeF ns i).2]) ∧ Below wr.heap.size wr w'):=fun sb vb ov D C L N w2 hsc hN => by
    have hal : Below w2.heap.size w2 (w2.alloc (.cells #[.pointer (some ⟨sb,0,none⟩),.map (some w1.heap.size)] 50)):=(Below.refl _ _).alloc (Nat.le_refl _) _
    rw [uh HNF i hlt]
    refine check_ok ⟨Classical.propDecidable⟩ wr _ ns i ns[i] b o w2.heap.size w1.heap.size sb vb ov D C L N ⟨hsc.below hal,blk_box w2 _ _,hlib,hat,hsc.old.size⟩ ?_ (by omega) hatA (uh HNB) hxb (uh HSM _ (List.getElem_mem hlt)) (uh HEE)
    have:=Nat.mul_le_mul_left 1000 hvl
    omega
   have HADD : Hid (∀ w',Below wr.heap.size wr w' → Calls Tryz.prog 16 #[.map (some w1.heap.size),.pointer (some ⟨b,o + i * 5,none⟩)] w' fun e w'' => e = .returned (.tuple #[]) ∧ LibAt w'' w1.heap.size b o ns (i + 1) ∧ Below w1.heap.size w' w''):=fun w' hb' => add_ok ns i hlt w1.heap.size b o w' (hat.stays RNode_kept hb') (hlib.below hb') (uh HSM _ (List.getElem_mem hlt)) (uh HEE) (by omega)
   have HS2:=hide (uh HRS i hlt)
   have HG2 : Hid (((nodeF ns i).1 != 0) = false → ∀ j,j < i + 1 → ((nodeF ns j).1 != 0) = false):=fun h j hj => by
    by_cases e : j = i
    ·subst e; exact h
    ·exact uh HNO j (by omega)
   have hlt' : (i : Int) < (ns.length : Int):=by omega
   have hi0 : (0 : Int) ≤ (i : Int):=by omega
   have HLT:=hide hlt
   generalize nodeF ns i = nf at HCHK HS2 HG2
   obtain ⟨f1,f2⟩:=nf
   simp only at HCHK HS2 HG2
   clear hat hatA hxb hn5 hb hlib hbw hvl HRS HRN HNF HEE HAT H1
   go_wp2_with fail
   refine (uh HNS).mono ?_
   rintro e9 w2 ⟨sb,vb,ov,D,C,L,N,rfl,hsc,hN,_⟩
   have HC9:=hide (uh HCHK sb vb ov D C L N w2 hsc hN)
   clear hsc hN HNS HCHK k1
   by_cases hf : f1 = 0
   ·have d1 : (f1 != 0) = false:=by simp [hf]
    have d2 : (f1 == 0) = true:=by simp [hf]
    have HN2:=hide (uh HG2 d1)
    clear HG2 HS2
    subst hf
    go_wp2_with fail
    refine (uh HC9).mono ?_
    rintro e9 w3 ⟨rfl,hb3⟩
    have HB3:=hide hb3
    have HA3:=hide (uh HADD w3 hb3)
    clear hb3 HC9 HADD
    go_wp2_with fail
    refine (uh HA3).mono ?_
    rintro e9 w4 ⟨rfl,hl4,hb4⟩
    have HL4:=hide hl4
    have HB4 : Hid (Below w1.heap.size w1 w4):=((uh HB).trans ((uh HB3).mono (uh HB).size)).trans hb4
    clear hl4 hb4 HA3
    go_wp2
    go_roundg (ns.length - (i + 1))
    case measure =>
     have h8:=uh HLT
     have h9:=uh HG
     omega
    case rel => exact ⟨i + 1,uh HLT,rfl,by go_num,uh HN2,uh HB4,uh HL4⟩
   ·have d1 : (f1 != 0) = true:=by simp [hf]
    have d2 : (f1 == 0) = false:=by simp [hf]
    have HR:=hide (uh HS2 d1 (uh HNO))
    clear HG2 HS2 hf HADD
    go_wp2_with fail
    refine (uh HC9).mono ?_
    rintro e9 w3 ⟨rfl,hb3⟩
    have HF : Hid (Below w.heap.size w w3):=(uh HBW).trans (hb3.mono (uh HBW).size)
    clear hb3 HC9
    go_wp2
    go_ret3
    exact ⟨ret_three (uh HR),uh HF⟩
theorem sum_ge (f : DNode → Nat) (ns : List DNode) (n : DNode) (h : n ∈ ns) : f n ≤ (ns.map f).sum:=by
 induction ns with
 | nil => cases h
 | cons x xs ih =>
  simp only [List.map_cons,List.sum_cons]
  rcases List.mem_cons.1 h with rfl | h
  ·omega
  ·have:=ih h
   omega
theorem small_node (ns : List DNode) (n : DNode) (h : n ∈ ns) : n.ins.length + n.outs.length + n.vars.length ≤ wSum wNode ns:=by
 have h1:=sum_ge wNode ns n h
 have h2 : n.ins.length + n.outs.length + n.vars.length ≤ wNode n:=by
  simp only [wNode,wSum]
  omega
 unfold wSum
 omega
set_option maxHeartbeats 2000000 in
theorem law_ok (ns : List DNode) (v : Value) (w : World) (h1 : SlAt 5 112 RNode 0 w v ns) :
  Calls Tryz.prog 3 #[.agg #[v]] w (Ans (.bool true) w):=by
 obtain ⟨b0,c0,rfl⟩:=h1.shape
 have H1:=hide h1
 clear h1
 have B0:=hide ((Below.refl w.heap.size w).alloc (Nat.le_refl _) (.cells #[.slice b0 ns.length c0] 24))
 go_enter Tryz.func3,Tryz.ntmps3
 go_wp2_with fail
 refine (szProgram_ok ns _ _ _ ?_ ?_ ?_).mono ?_
 ·exact (uh H1).stays RNode_kept (uh B0)
 ·omega
 ·omega
 rintro e w1 ⟨r1,rfl,hr | ⟨p1,q1⟩,hb1⟩
 ·subst hr
  go_wp2
  go_ret
  exact ⟨rfl,(uh B0).trans (hb1.mono (uh B0).size)⟩
 have hsm : ∀ n,n ∈ ns → n.ins.length + n.outs.length + n.vars.length ≤ 1048576:=fun n hn => by
  have:=small_node ns n hn
  omega
 have HSM:=hide hsm
 have HBX1:=hide (box_of hb1)
 have B1 : Hid (Below w.heap.size w w1):=(uh B0).trans (hb1.mono (uh B0).size)
 have k1 : w1.cell? ⟨w.heap.size,0,none⟩ = some (.slice b0 ns.length c0):=by rw [box_cell (B:=0) (uh HBX1) 0]; rfl
 clear hsm hb1
 go_wp2_with fail
 refine (toProgram_ok ns _ _ ((uh H1).stays RNode_kept (uh B1))).mono ?_
 rintro e w2 ⟨cs2,rfl,⟨vx,rfl,hS2⟩,hb2⟩
 have HS2:=hide (hS2.lower RNode_lowers (Nat.zero_le _))
 have B2 : Hid (Below w.heap.size w w2):=(uh B1).trans (hb2.mono (uh B1).size)
 have HBX2 : Hid (Below (w.heap.size + 1) _ w2):=(uh HBX1).trans (hb2.mono (by have:=(uh HBX1).size; simp at this; omega))
 clear hS2 hb2 k1
 go_wp2_with fail
 refine (specCheck_ok ns _ _ (uh HS2) (uh HSM)).mono ?_
 rintro e w3 ⟨rfl,hb3⟩
 have B3 : Hid (Below w.heap.size w w3):=(uh B2).trans (hb3.mono (uh B2).size)
 have HBX3 : Hid (Below (w.heap.size + 1) _ w3):=(uh HBX2).trans (hb3.mono (by have:=(uh HBX2).size; simp at this; omega))
 have k3 : w3.cell? ⟨w.heap.size,0,none⟩ = some (.slice b0 ns.length c0):=by rw [box_cell (B:=0) (uh HBX3) 0]; rfl
 clear hb3
 go_wp2_with fail
 refine (toProgram_ok ns _ _ ((uh H1).stays RNode_kept (uh B3))).mono ?_
 rintro e w4 ⟨cs4,rfl,⟨vy,rfl,hS4⟩,hb4⟩
 obtain ⟨by4,cy4,rfl⟩:=hS4.shape
 have HS4:=hide (hS4.lower RNode_lowers (Nat.zero_le _))
 have B4 : Hid (Below w.heap.size w w4):=(uh B3).trans (hb4.mono (uh B3).size)
 have HBX4 : Hid (Below (w.heap.size + 1) _ w4):=(uh HBX3).trans (hb4.mono (by have:=(uh HBX3).size; simp at this; omega))
 have BY:=hide ((Below.refl w4.heap.size w4).alloc (Nat.le_refl _) (.cells #[.slice by4 ns.length cy4] 30))
 clear hS4 hb4 k3
 go_wp2_with fail
 refine (implCheck_ok ns _ _ ((uh HS4).stays RNode_kept (uh BY))).mono ?_
 rintro e w5 ⟨rfl,hb5⟩
 have HBY5:=hide (box_of hb5)
 have H45 : Hid (Below w4.heap.size w4 w5):=(uh BY).trans (hb5.mono (uh BY).size)
 have B5 : Hid (Below w.heap.size w w5):=(uh B4).trans ((uh H45).mono (uh B4).size)
 have HBX5 : Hid (Below (w.heap.size + 1) _ w5):=(uh HBX4).trans ((uh H45).mono (by have:=(uh HBX4).size; simp at this; omega))
 have HS5:=hide ((uh HS4).stays RNode_kept (uh H45))
 have k5 : w5.cell? ⟨w.heap.size,0,none⟩ = some (.slice b0 ns.length c0):=by rw [box_cell (B:=0) (uh HBX5) 0]; rfl
 have j5 : w5.cell? ⟨w4.heap.size,0,none⟩ = some (.slice by4 ns.length cy4):=by rw [box_cell (B:=0) (uh HBY5) 0]; rfl
 have hz5 : w4.heap.size < w5.heap.size:=by have:=(uh HBY5).size; simp at this; omega
 clear hb5
 generalize checkF ns = R at *
 obtain ⟨r1,r2,r3⟩:=R
 simp only at *
 have sb1 : (r1 != r1) = false:=by simp
 have sb2 : (r2 != r2) = false:=by simp
 have sb3 : (r3 != r3) = false:=by simp
 go_wp2_with fail
 have HTP:=hide (toProgram_ok ns _ w5.drew ((uh H1).stays RNode_kept (uh B5).drew))
 go_region_with (first | (go_at_call 6; refine (uh HTP).mono ?_; rintro e w6 ⟨cs6,rfl,⟨vz,rfl,hS6⟩,hb6⟩; have j6 : w6.cell? ⟨w4.heap.size,0,none⟩ = some (.slice by4 ns.length cy4):=(hb6.cell (p:=⟨w4.heap.size,0,none⟩) hz5).trans j5; have HB6:=hide ((uh B5).drew.trans (hb6.mono (uh B5).drew.size)); have HE6:=hide (eqProgram_ok ns _ _ w6 ((uh HS5).stays RNode_kept (Below.trans (Below.drew (Below.refl _ w5)) hb6)) (hS6.lower RNode_lowers (Nat.zero_le _))); clear hS6 hb6) | (go_at_call 8; refine (uh HE6).mono ?_; rintro e w7 ⟨rfl,hb7⟩))
 all_goals
  go_wp2
  go_ret
  exact ⟨rfl,(uh HB6).trans (hb7.mono (uh HB6).size)⟩
end Go.Proofs.YtfioeoihociilaaGreat
namespace Go.Proofs.YtfioeoihociilaaGreat
open Go.RowKit Go.ChangeShapes Go.WideShapes
set_option linter.unusedSimpArgs false
set_option linter.unusedVariables false
section
variable {H : Type} {enc : TypeId × Value → H} {w : World} {spare : Nat → Bool} {held : Bool}
def WOK (t : TypeId) (d : DataW H) : Prop:=∀ n,n ∈ d.weights Tryz.prog t → n ≤ 140737488355328
theorem weightsAll_mem {e : TypeId} {l : List (DataW H)} {d : DataW H} (hd : d ∈ l) {n : Nat} (hn : n ∈ d.weights Tryz.prog e) : n ∈ DataW.weightsAll Tryz.prog e l:=by
 induction l with
 | nil => cases hd
 | cons x xs ih =>
  simp only [DataW.weightsAll,List.mem_append]
  rcases List.mem_cons.1 hd with rfl | hd
  ·exact Or.inl hn
  ·exact Or.inr (ih hd)
theorem rd_slice {α : Type} {sz byt : Nat} {R : Nat → World → List Value → α → Prop} {t e : TypeId} (ht : Tryz.prog.underlying t = some (.slice e)) (hsz : Tryz.prog.cellsOf e = sz) (hby : Tryz.prog.bytesOf e = byt) (h0 : 0 < sz) (h1 : 0 < byt)
  (hel : ∀ n cs d pl,DataW.trod enc Tryz.prog w 0 spare held n e cs = some (d,pl) → WOK e d → ∃ x : α,R 0 w cs x)
  {fuel : Nat} {cs : List Value} {y : DataW H × List MemPlace} (h : DataW.trod enc Tryz.prog w 0 spare held fuel t cs = some y) (hw : WOK t y.1) : ∃ v xs,cs = [v] ∧ SlAt sz byt R 0 w v xs:=by
 rcases Deep.open_slice ht h with ⟨rfl,_⟩ | ⟨a,len,cap,m,n,D,Pl,rfl,hb,hl,hm,hmm,rfl,hcl⟩
 ·exact ⟨_,[],rfl,none,0,rfl,⟨by simp [Len],Nat.le_refl _⟩,by simp [Len],fun i hi => absurd hi (Nat.not_lt_zero _)⟩
 ·have hlm : len ≤ m:=by rw [hmm]; split <;> omega
  unfold WOK at hw
  simp only [DataW.weights,ht,hby] at hw
  have hbytes : len * byt ≤ 140737488355328:=by
   have:=hw _ (List.mem_cons_self ..)
   simp only [List.length_map,List.length_range] at this
   exact Nat.le_trans (Nat.mul_le_mul_right _ (Nat.le_add_right _ _)) this
  have hlen : len ≤ 140737488355328:=Nat.le_trans (Nat.le_mul_of_pos_right _ h1) hbytes
  have he : ∀ i,i < len → ∃ x : α,∃ cs',w.cells? 0 (a.add (i * sz)) sz = some cs' ∧ R 0 w cs' x:=fun i hi => by
   obtain ⟨cs',hc1,hc2⟩:=hcl i (by omega)
   rw [hsz] at hc1
   obtain ⟨x,hx⟩:=hel n cs' (D i) (Pl i) hc2 (fun k hk => hw k (List.mem_cons_of_mem _ (List.mem_append_left _ (weightsAll_mem (List.mem_map.2 ⟨i,by simpa using hi,rfl⟩) hk))))
   exact ⟨x,cs',hc1,hx⟩
  refine ⟨_,List.ofFn (fun i : Fin len => Classical.choose (he i.1 i.2)),rfl,some a,cap,by rw [List.length_ofFn],⟨by unfold Len; rw [List.length_ofFn]; exact hbytes,by rw [List.length_ofFn]; exact hl⟩,by unfold Len; rw [List.length_ofFn]; exact hlen,fun i hi => ?_⟩
  have hi' : i < len:=by simpa using hi
  obtain ⟨cs',hc,hR⟩:=Classical.choose_spec (he i hi')
  obtain ⟨_,hcl',hcell⟩:=World.cells?_some hc
  have hblk:=World.cells?_block hc h0
  obtain ⟨b,o,sp⟩:=a
  have hspot : sp = none:=by
   obtain ⟨_,cs0,hc0,_⟩:=he 0 (by omega)
   obtain ⟨_,hl0,hcell0⟩:=World.cells?_some hc0
   have c0:=hcell0 0 h0
   rw [List.getElem?_eq_getElem (by omega)] at c0
   have:=World.cell?_spot c0
   simpa [Addr.add] using this
  subst hspot
  rw [Addr.add_lit] at hblk
  refine ⟨b,o,cs',rfl,Nat.zero_le _,hblk,hcl',fun j hj => ?_,?_⟩
  ·have cj:=hcell j (by omega)
   rw [Addr.add_lit,Addr.add_lit,List.getElem?_eq_getElem hj] at cj
   exact cj
  ·rw [List.getElem_ofFn]
   exact hR
theorem list1 {α : Type} {l : List α} (h : l.length = 1) : ∃ a,l = [a]:=by
 match l,h with
 | [a],_ => exact ⟨a,rfl⟩
theorem list2 {α : Type} {l : List α} (h : l.length = 2) : ∃ a b,l = [a,b]:=by
 match l,h with
 | [a,b],_ => exact ⟨a,b,rfl⟩
theorem list3 {α : Type} {l : List α} (h : l.length = 3) : ∃ a b c,l = [a,b,c]:=by
 match l,h with
 | [a,b,c],_ => exact ⟨a,b,c,rfl⟩
theorem list4 {α : Type} {l : List α} (h : l.length = 4) : ∃ a b c d,l = [a,b,c,d]:=by
 match l,h with
 | [a,b,c,d],_ => exact ⟨a,b,c,d,rfl⟩
theorem list5 {α : Type} {l : List α} (h : l.length = 5) : ∃ a b c d e,l = [a,b,c,d,e]:=by
 match l,h with
 | [a,b,c,d,e],_ => exact ⟨a,b,c,d,e,rfl⟩
theorem wf_I64 {n : Int} (h : (Lit.int .i64 n).wf = true) : I64 n:=by
 simp [Lit.wf,IntKind.min,IntKind.max,IntKind.signed,IntKind.bits] at h
 exact ⟨by omega,by omega⟩
theorem rd_str {fuel : Nat} {cs : List Value} {y : DataW H × List MemPlace} (h : DataW.trod enc Tryz.prog w 0 spare held fuel 9 cs = some y) (hw : WOK 9 y.1) : ∃ s,cs = [.string s] ∧ Len s.size:=by
 obtain ⟨s,rfl,rfl,_⟩:=DataW.trod_string Tryz.underlying9 h
 refine ⟨s,rfl,?_⟩
 have:=hw s.data.toList.length (by simp [DataW.weights])
 rw [Array.length_toList] at this
 exact this
theorem cells_string : Tryz.prog.cellsOf 9 = 1:=by kernel_rfl
theorem cells_bool : Tryz.prog.cellsOf 4 = 1:=by kernel_rfl
theorem cells_int : Tryz.prog.cellsOf 3 = 1:=by kernel_rfl
theorem cells_SCond : Tryz.prog.cellsOf 133 = 1:=by kernel_rfl
theorem cells_SItem : Tryz.prog.cellsOf 137 = 1:=by kernel_rfl
theorem cells_SStr : Tryz.prog.cellsOf 66 = 1:=by kernel_rfl
theorem cells_SItems : Tryz.prog.cellsOf 138 = 1:=by kernel_rfl
theorem cells_SVar : Tryz.prog.cellsOf 55 = 1:=by kernel_rfl
theorem cells_SEq : Tryz.prog.cellsOf 56 = 1:=by kernel_rfl
theorem cells_SNode : Tryz.prog.cellsOf 22 = 1:=by kernel_rfl
theorem cells_Cond : Tryz.prog.cellsOf 182 = 2:=by kernel_rfl
theorem cells_Item : Tryz.prog.cellsOf 184 = 3:=by kernel_rfl
theorem cells_Var : Tryz.prog.cellsOf 135 = 3:=by kernel_rfl
theorem cells_Eq : Tryz.prog.cellsOf 140 = 4:=by kernel_rfl
theorem cells_Node : Tryz.prog.cellsOf 58 = 5:=by kernel_rfl
theorem cells_Prog : Tryz.prog.cellsOf 24 = 1:=by kernel_rfl
theorem bytes_Cond : Tryz.prog.bytesOf 182 = 24:=by kernel_rfl
theorem bytes_Item : Tryz.prog.bytesOf 184 = 32:=by kernel_rfl
theorem bytes_string : Tryz.prog.bytesOf 9 = 16:=by kernel_rfl
theorem bytes_SItem : Tryz.prog.bytesOf 137 = 24:=by kernel_rfl
theorem bytes_Var : Tryz.prog.bytesOf 135 = 48:=by kernel_rfl
theorem bytes_Eq : Tryz.prog.bytesOf 140 = 88:=by kernel_rfl
theorem bytes_Node : Tryz.prog.bytesOf 58 = 112:=by kernel_rfl
theorem rd_Cond (n : Nat) (cs : List Value) (d : DataW H) (pl : List MemPlace) (h : DataW.trod enc Tryz.prog w 0 spare held n 182 cs = some (d,pl)) (hw : WOK 182 d) : ∃ x : DCond,RCond 0 w cs x:=by
 obtain ⟨ys,m,_,hx,hl,hyl,hf⟩:=DataW.trod_struct Tryz.underlying182 h
 rw [cells_Cond] at hl
 obtain ⟨c0,c1,rfl⟩:=list2 hl
 obtain ⟨y0,y1,rfl⟩:=list2 (show ys.length = 2 from hyl)
 have f0 : DataW.trod enc Tryz.prog w 0 spare held m 9 (([c0,c1].drop 0).take (Tryz.prog.cellsOf 9)) = some y0:=hf 0 _ rfl
 rw [cells_string] at f0
 replace f0 : DataW.trod enc Tryz.prog w 0 spare held m 9 [c0] = some y0:=f0
 have f1 : DataW.trod enc Tryz.prog w 0 spare held m 4 (([c0,c1].drop 1).take (Tryz.prog.cellsOf 4)) = some y1:=hf 1 _ rfl
 rw [cells_bool] at f1
 replace f1 : DataW.trod enc Tryz.prog w 0 spare held m 4 [c1] = some y1:=f1
 simp only [Prod.mk.injEq] at hx
 obtain ⟨rfl,rfl⟩:=hx
 unfold WOK at hw
 simp only [List.map_cons,List.map_nil,DataW.weights,Tryz.underlying182,DataW.weightsEach,List.append_nil,List.mem_append] at hw
 have w0 : WOK 9 y0.1:=fun k hk => hw k (Or.inl hk)
 have w1 : WOK 4 y1.1:=fun k hk => hw k (Or.inr (hk))
 obtain ⟨s0,hc0,hs0⟩:=rd_str f0 w0
 obtain rfl : c0 = .string s0:=by simpa using hc0
 obtain ⟨b1,hc1,_⟩:=DataW.trod_bool Tryz.underlying4 f1
 obtain rfl : c1 = .bool b1:=by simpa using hc1
 exact ⟨⟨s0,b1⟩,rfl,hs0⟩
theorem rd_Item (n : Nat) (cs : List Value) (d : DataW H) (pl : List MemPlace) (h : DataW.trod enc Tryz.prog w 0 spare held n 184 cs = some (d,pl)) (hw : WOK 184 d) : ∃ x : DItem,RItem 0 w cs x:=by
 obtain ⟨ys,m,_,hx,hl,hyl,hf⟩:=DataW.trod_struct Tryz.underlying184 h
 rw [cells_Item] at hl
 obtain ⟨c0,c1,c2,rfl⟩:=list3 hl
 obtain ⟨y0,y1,y2,rfl⟩:=list3 (show ys.length = 3 from hyl)
 have f0 : DataW.trod enc Tryz.prog w 0 spare held m 3 (([c0,c1,c2].drop 0).take (Tryz.prog.cellsOf 3)) = some y0:=hf 0 _ rfl
 rw [cells_int] at f0
 replace f0 : DataW.trod enc Tryz.prog w 0 spare held m 3 [c0] = some y0:=f0
 have f1 : DataW.trod enc Tryz.prog w 0 spare held m 3 (([c0,c1,c2].drop 1).take (Tryz.prog.cellsOf 3)) = some y1:=hf 1 _ rfl
 rw [cells_int] at f1
 replace f1 : DataW.trod enc Tryz.prog w 0 spare held m 3 [c1] = some y1:=f1
 have f2 : DataW.trod enc Tryz.prog w 0 spare held m 9 (([c0,c1,c2].drop 2).take (Tryz.prog.cellsOf 9)) = some y2:=hf 2 _ rfl
 rw [cells_string] at f2
 replace f2 : DataW.trod enc Tryz.prog w 0 spare held m 9 [c2] = some y2:=f2
 simp only [Prod.mk.injEq] at hx
 obtain ⟨rfl,rfl⟩:=hx
 unfold WOK at hw
 simp only [List.map_cons,List.map_nil,DataW.weights,Tryz.underlying184,DataW.weightsEach,List.append_nil,List.mem_append] at hw
 have w0 : WOK 3 y0.1:=fun k hk => hw k (Or.inl hk)
 have w1 : WOK 3 y1.1:=fun k hk => hw k (Or.inr (Or.inl hk))
 have w2 : WOK 9 y2.1:=fun k hk => hw k (Or.inr (Or.inr (hk)))
 obtain ⟨n0,hc0,_,hs0⟩:=DataW.trod_int Tryz.underlying3 f0
 obtain rfl : c0 = .int .i64 n0:=by simpa using hc0
 obtain ⟨n1,hc1,_,hs1⟩:=DataW.trod_int Tryz.underlying3 f1
 obtain rfl : c1 = .int .i64 n1:=by simpa using hc1
 obtain ⟨s2,hc2,hs2⟩:=rd_str f2 w2
 obtain rfl : c2 = .string s2:=by simpa using hc2
 exact ⟨⟨n0,n1,s2⟩,rfl,hs2,wf_I64 hs0,wf_I64 hs1⟩
theorem rd_Var (n : Nat) (cs : List Value) (d : DataW H) (pl : List MemPlace) (h : DataW.trod enc Tryz.prog w 0 spare held n 135 cs = some (d,pl)) (hw : WOK 135 d) : ∃ x : DVar,RVar 0 w cs x:=by
 obtain ⟨ys,m,_,hx,hl,hyl,hf⟩:=DataW.trod_struct Tryz.underlying135 h
 rw [cells_Var] at hl
 obtain ⟨c0,c1,c2,rfl⟩:=list3 hl
 obtain ⟨y0,y1,y2,rfl⟩:=list3 (show ys.length = 3 from hyl)
 have f0 : DataW.trod enc Tryz.prog w 0 spare held m 9 (([c0,c1,c2].drop 0).take (Tryz.prog.cellsOf 9)) = some y0:=hf 0 _ rfl
 rw [cells_string] at f0
 replace f0 : DataW.trod enc Tryz.prog w 0 spare held m 9 [c0] = some y0:=f0
 have f1 : DataW.trod enc Tryz.prog w 0 spare held m 3 (([c0,c1,c2].drop 1).take (Tryz.prog.cellsOf 3)) = some y1:=hf 1 _ rfl
 rw [cells_int] at f1
 replace f1 : DataW.trod enc Tryz.prog w 0 spare held m 3 [c1] = some y1:=f1
 have f2 : DataW.trod enc Tryz.prog w 0 spare held m 133 (([c0,c1,c2].drop 2).take (Tryz.prog.cellsOf 133)) = some y2:=hf 2 _ rfl
 rw [cells_SCond] at f2
 replace f2 : DataW.trod enc Tryz.prog w 0 spare held m 133 [c2] = some y2:=f2
 simp only [Prod.mk.injEq] at hx
 obtain ⟨rfl,rfl⟩:=hx
 unfold WOK at hw
 simp only [List.map_cons,List.map_nil,DataW.weights,Tryz.underlying135,DataW.weightsEach,List.append_nil,List.mem_append] at hw
 have w0 : WOK 9 y0.1:=fun k hk => hw k (Or.inl hk)
 have w1 : WOK 3 y1.1:=fun k hk => hw k (Or.inr (Or.inl hk))
 have w2 : WOK 133 y2.1:=fun k hk => hw k (Or.inr (Or.inr (hk)))
 obtain ⟨s0,hc0,hs0⟩:=rd_str f0 w0
 obtain rfl : c0 = .string s0:=by simpa using hc0
 obtain ⟨n1,hc1,_,hs1⟩:=DataW.trod_int Tryz.underlying3 f1
 obtain rfl : c1 = .int .i64 n1:=by simpa using hc1
 obtain ⟨v2,l2,hv2,hs2⟩:=rd_slice (R:=RCond) Tryz.underlying133 cells_Cond bytes_Cond (by decide) (by decide) (fun n cs d pl h hw => rd_Cond n cs d pl h hw) f2 w2
 obtain rfl : c2 = v2:=by simpa using hv2
 exact ⟨⟨s0,n1,l2⟩,c2,rfl,hs0,wf_I64 hs1,hs2⟩
theorem rd_StrEl (n : Nat) (cs : List Value) (d : DataW H) (pl : List MemPlace) (h : DataW.trod enc Tryz.prog w 0 spare held n 9 cs = some (d,pl)) (hw : WOK 9 d) : ∃ x : ByteArray,RStr 0 w cs x:=by
 obtain ⟨s,rfl,hs⟩:=rd_str h hw
 exact ⟨s,rfl,hs⟩
theorem rd_Items (n : Nat) (cs : List Value) (d : DataW H) (pl : List MemPlace) (h : DataW.trod enc Tryz.prog w 0 spare held n 137 cs = some (d,pl)) (hw : WOK 137 d) : ∃ x : List DItem,RItems 0 w cs x:=by
 obtain ⟨v,l,rfl,hs⟩:=rd_slice (R:=RItem) Tryz.underlying137 cells_Item bytes_Item (by decide) (by decide) (fun n cs d pl h hw => rd_Item n cs d pl h hw) h hw
 exact ⟨l,v,rfl,hs⟩
theorem rd_Eq (n : Nat) (cs : List Value) (d : DataW H) (pl : List MemPlace) (h : DataW.trod enc Tryz.prog w 0 spare held n 140 cs = some (d,pl)) (hw : WOK 140 d) : ∃ x : DEq,REq 0 w cs x:=by
 obtain ⟨ys,m,_,hx,hl,hyl,hf⟩:=DataW.trod_struct Tryz.underlying140 h
 rw [cells_Eq] at hl
 obtain ⟨c0,c1,c2,c3,rfl⟩:=list4 hl
 obtain ⟨y0,y1,y2,y3,rfl⟩:=list4 (show ys.length = 4 from hyl)
 have f0 : DataW.trod enc Tryz.prog w 0 spare held m 66 (([c0,c1,c2,c3].drop 0).take (Tryz.prog.cellsOf 66)) = some y0:=hf 0 _ rfl
 rw [cells_SStr] at f0
 replace f0 : DataW.trod enc Tryz.prog w 0 spare held m 66 [c0] = some y0:=f0
 have f1 : DataW.trod enc Tryz.prog w 0 spare held m 137 (([c0,c1,c2,c3].drop 1).take (Tryz.prog.cellsOf 137)) = some y1:=hf 1 _ rfl
 rw [cells_SItem] at f1
 replace f1 : DataW.trod enc Tryz.prog w 0 spare held m 137 [c1] = some y1:=f1
 have f2 : DataW.trod enc Tryz.prog w 0 spare held m 9 (([c0,c1,c2,c3].drop 2).take (Tryz.prog.cellsOf 9)) = some y2:=hf 2 _ rfl
 rw [cells_string] at f2
 replace f2 : DataW.trod enc Tryz.prog w 0 spare held m 9 [c2] = some y2:=f2
 have f3 : DataW.trod enc Tryz.prog w 0 spare held m 138 (([c0,c1,c2,c3].drop 3).take (Tryz.prog.cellsOf 138)) = some y3:=hf 3 _ rfl
 rw [cells_SItems] at f3
 replace f3 : DataW.trod enc Tryz.prog w 0 spare held m 138 [c3] = some y3:=f3
 simp only [Prod.mk.injEq] at hx
 obtain ⟨rfl,rfl⟩:=hx
 unfold WOK at hw
 simp only [List.map_cons,List.map_nil,DataW.weights,Tryz.underlying140,DataW.weightsEach,List.append_nil,List.mem_append] at hw
 have w0 : WOK 66 y0.1:=fun k hk => hw k (Or.inl hk)
 have w1 : WOK 137 y1.1:=fun k hk => hw k (Or.inr (Or.inl hk))
 have w2 : WOK 9 y2.1:=fun k hk => hw k (Or.inr (Or.inr (Or.inl hk)))
 have w3 : WOK 138 y3.1:=fun k hk => hw k (Or.inr (Or.inr (Or.inr (hk))))
 obtain ⟨v0,l0,hv0,hs0⟩:=rd_slice (R:=RStr) Tryz.underlying66 cells_string bytes_string (by decide) (by decide) (fun n cs d pl h hw => rd_StrEl n cs d pl h hw) f0 w0
 obtain rfl : c0 = v0:=by simpa using hv0
 obtain ⟨v1,l1,hv1,hs1⟩:=rd_slice (R:=RItem) Tryz.underlying137 cells_Item bytes_Item (by decide) (by decide) (fun n cs d pl h hw => rd_Item n cs d pl h hw) f1 w1
 obtain rfl : c1 = v1:=by simpa using hv1
 obtain ⟨s2,hc2,hs2⟩:=rd_str f2 w2
 obtain rfl : c2 = .string s2:=by simpa using hc2
 obtain ⟨v3,l3,hv3,hs3⟩:=rd_slice (R:=RItems) Tryz.underlying138 cells_SItem bytes_SItem (by decide) (by decide) (fun n cs d pl h hw => rd_Items n cs d pl h hw) f3 w3
 obtain rfl : c3 = v3:=by simpa using hv3
 exact ⟨⟨l0,l1,s2,l3⟩,c0,c1,c3,rfl,hs2,hs0,hs1,hs3⟩
theorem rd_Node (n : Nat) (cs : List Value) (d : DataW H) (pl : List MemPlace) (h : DataW.trod enc Tryz.prog w 0 spare held n 58 cs = some (d,pl)) (hw : WOK 58 d) : ∃ x : DNode,RNode 0 w cs x:=by
 obtain ⟨ys,m,_,hx,hl,hyl,hf⟩:=DataW.trod_struct Tryz.underlying58 h
 rw [cells_Node] at hl
 obtain ⟨c0,c1,c2,c3,c4,rfl⟩:=list5 hl
 obtain ⟨y0,y1,y2,y3,y4,rfl⟩:=list5 (show ys.length = 5 from hyl)
 have f0 : DataW.trod enc Tryz.prog w 0 spare held m 9 (([c0,c1,c2,c3,c4].drop 0).take (Tryz.prog.cellsOf 9)) = some y0:=hf 0 _ rfl
 rw [cells_string] at f0
 replace f0 : DataW.trod enc Tryz.prog w 0 spare held m 9 [c0] = some y0:=f0
 have f1 : DataW.trod enc Tryz.prog w 0 spare held m 55 (([c0,c1,c2,c3,c4].drop 1).take (Tryz.prog.cellsOf 55)) = some y1:=hf 1 _ rfl
 rw [cells_SVar] at f1
 replace f1 : DataW.trod enc Tryz.prog w 0 spare held m 55 [c1] = some y1:=f1
 have f2 : DataW.trod enc Tryz.prog w 0 spare held m 55 (([c0,c1,c2,c3,c4].drop 2).take (Tryz.prog.cellsOf 55)) = some y2:=hf 2 _ rfl
 rw [cells_SVar] at f2
 replace f2 : DataW.trod enc Tryz.prog w 0 spare held m 55 [c2] = some y2:=f2
 have f3 : DataW.trod enc Tryz.prog w 0 spare held m 55 (([c0,c1,c2,c3,c4].drop 3).take (Tryz.prog.cellsOf 55)) = some y3:=hf 3 _ rfl
 rw [cells_SVar] at f3
 replace f3 : DataW.trod enc Tryz.prog w 0 spare held m 55 [c3] = some y3:=f3
 have f4 : DataW.trod enc Tryz.prog w 0 spare held m 56 (([c0,c1,c2,c3,c4].drop 4).take (Tryz.prog.cellsOf 56)) = some y4:=hf 4 _ rfl
 rw [cells_SEq] at f4
 replace f4 : DataW.trod enc Tryz.prog w 0 spare held m 56 [c4] = some y4:=f4
 simp only [Prod.mk.injEq] at hx
 obtain ⟨rfl,rfl⟩:=hx
 unfold WOK at hw
 simp only [List.map_cons,List.map_nil,DataW.weights,Tryz.underlying58,DataW.weightsEach,List.append_nil,List.mem_append] at hw
 have w0 : WOK 9 y0.1:=fun k hk => hw k (Or.inl hk)
 have w1 : WOK 55 y1.1:=fun k hk => hw k (Or.inr (Or.inl hk))
 have w2 : WOK 55 y2.1:=fun k hk => hw k (Or.inr (Or.inr (Or.inl hk)))
 have w3 : WOK 55 y3.1:=fun k hk => hw k (Or.inr (Or.inr (Or.inr (Or.inl hk))))
 have w4 : WOK 56 y4.1:=fun k hk => hw k (Or.inr (Or.inr (Or.inr (Or.inr (hk)))))
 obtain ⟨s0,hc0,hs0⟩:=rd_str f0 w0
 obtain rfl : c0 = .string s0:=by simpa using hc0
 obtain ⟨v1,l1,hv1,hs1⟩:=rd_slice (R:=RVar) Tryz.underlying55 cells_Var bytes_Var (by decide) (by decide) (fun n cs d pl h hw => rd_Var n cs d pl h hw) f1 w1
 obtain rfl : c1 = v1:=by simpa using hv1
 obtain ⟨v2,l2,hv2,hs2⟩:=rd_slice (R:=RVar) Tryz.underlying55 cells_Var bytes_Var (by decide) (by decide) (fun n cs d pl h hw => rd_Var n cs d pl h hw) f2 w2
 obtain rfl : c2 = v2:=by simpa using hv2
 obtain ⟨v3,l3,hv3,hs3⟩:=rd_slice (R:=RVar) Tryz.underlying55 cells_Var bytes_Var (by decide) (by decide) (fun n cs d pl h hw => rd_Var n cs d pl h hw) f3 w3
 obtain rfl : c3 = v3:=by simpa using hv3
 obtain ⟨v4,l4,hv4,hs4⟩:=rd_slice (R:=REq) Tryz.underlying56 cells_Eq bytes_Eq (by decide) (by decide) (fun n cs d pl h hw => rd_Eq n cs d pl h hw) f4 w4
 obtain rfl : c4 = v4:=by simpa using hv4
 exact ⟨⟨s0,l1,l2,l3,l4⟩,c1,c2,c3,c4,rfl,hs0,hs1,hs2,hs3,hs4⟩
end
end Go.Proofs.YtfioeoihociilaaGreat
