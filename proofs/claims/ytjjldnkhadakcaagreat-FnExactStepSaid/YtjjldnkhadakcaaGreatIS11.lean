import Derived.Test.YtjjldnkhadakcaaGreatIS8
import Derived.Test.YtjjldnkhadakcaaGreatMLStep
import Derived.Test.YtjjldnkhadakcaaGreatMR1
import Derived.Laws.Rows
import Derived.Test.YtjjldnkhadakcaaGreatST11
namespace Go.Proofs.YtjjldnkhadakcaaGreat
open Go.RowKit
set_option linter.unusedSimpArgs false
set_option linter.unusedVariables false
def putL (L : List Int) (o : Nat) (xs : List Int) : List Int:=L.take o ++ xs ++ L.drop (o + xs.length)
theorem putL_len (L : List Int) (o : Nat) (xs : List Int) (h : o + xs.length ≤ L.length) : (putL L o xs).length = L.length:=by
 unfold putL
 simp only [List.length_append,List.length_take,List.length_drop]
 omega
theorem putL_get (L : List Int) (o : Nat) (xs : List Int) (p : Nat) (h : o + xs.length ≤ L.length) : (putL L o xs).getD p 0 = if o ≤ p ∧ p < o + xs.length then xs.getD (p - o) 0 else L.getD p 0:=by
 unfold putL
 have ht : (L.take o).length = o:=by rw [List.length_take]; omega
 have ht2 : (L.take o ++ xs).length = o + xs.length:=by rw [List.length_append,ht]
 rw [List.getD_eq_getElem?_getD]
 by_cases c1 : p < o
 ·rw [if_neg (by omega),List.getElem?_append_left (by omega),List.getElem?_append_left (by omega),List.getElem?_take,if_pos c1,List.getD_eq_getElem?_getD]
 ·by_cases c2 : p < o + xs.length
  ·rw [if_pos (by omega),List.getElem?_append_left (by omega),List.getElem?_append_right (by omega),ht,List.getD_eq_getElem?_getD]
  ·rw [if_neg (by omega),List.getElem?_append_right (by omega),ht2,List.getElem?_drop,List.getD_eq_getElem?_getD,show o + xs.length + (p - (o + xs.length)) = p by omega]
theorem copy_row (w : World) (base B o n c : Nat) (L : List Int) (hrow : BlkAt w B 21 (L.map (Value.int .i32)).toArray) (g : Nat) (xs : List Int) (ho : OwnV el32 w base (.slice (some ⟨g,0,none⟩) xs.length xs.length) xs) (hfit : o + xs.length ≤ L.length) (hn : xs.length ≤ n) :
  (∀ ty,(Builtin.copy_ #[55,55] ty #[.slice (some ⟨B,o,none⟩) n c,.slice (some ⟨g,0,none⟩) xs.length xs.length]).run Tryz.prog w = .ok (.int .i64 (xs.length : Int)) (w.setRow B ((putL L o xs).map (Value.int .i32)).toArray)) ∧ BlkAt (w.setRow B ((putL L o xs).map (Value.int .i32)).toArray) B 21 ((putL L o xs).map (Value.int .i32)).toArray ∧ But [B] w (w.setRow B ((putL L o xs).map (Value.int .i32)).toArray):=by
 refine ⟨fun ty => ?_,setRow_heap w B _ _ _ _ hrow,⟨rfl,rfl,rfl,Nat.le_of_eq (size_setRow w B _).symm,fun k hk hn => setRow_other w B k _ (fun e => hn (by rw [e]; exact List.mem_singleton.2 rfl))⟩⟩
 have h9:=run_copy_row (P:=Tryz.prog) w 55 55 ty 21 B o n c ⟨g,0,none⟩ xs.length xs.length (L.map (Value.int .i32)).toArray 21 (xs.map (Value.int .i32)) Tryz.underlying55 (by kernel_rfl) hrow (by rw [List.length_map]; exact (Nat.min_eq_left hn).symm) (fun j v hj => by
  rw [List.getElem?_map] at hj
  obtain ⟨y,hy,rfl⟩:=Option.map_eq_some_iff.1 hj
  obtain ⟨hjl,rfl⟩:=List.getElem?_eq_some_iff.1 hy
  rw [Addr.add_lit,Nat.zero_add]
  exact ho.cell32 rfl j hjl) (by simp; omega) (fun v hv => by
  obtain ⟨y,_,rfl⟩:=List.mem_map.1 hv
  rfl)
 rw [h9]
 have e : ((L.map (Value.int .i32)).toArray.toList.take o ++ xs.map (Value.int .i32) ++ (L.map (Value.int .i32)).toArray.toList.drop (o + (xs.map (Value.int .i32)).length)) = (putL L o xs).map (Value.int .i32):=by
  unfold putL
  simp
 rw [e,List.length_map]
 rfl
theorem made_zero (n : Nat) : madeCells #[.int .i32 0] n = ((List.replicate n (0 : Int)).map (Value.int .i32)).toArray:=by
 apply Array.ext
 ·rw [size_madeCells]; simp
 ·intro i h1 h2
  simp [madeCells,Nat.mod_one]
def WPost2 (xs : List Int) (w : World) (e : Ending) (w' : World) : Prop:=∃ v,e = .returned v ∧ OwnI w w' v xs ∧ (∀ b,v.ownBlock = some b → b < w'.heap.size) ∧ Below w.heap.size w w'
set_option maxHeartbeats 1000000 in
theorem wide2_ok (xs : List Int) (v : Value) (w : World) (hv : SlAt 1 4 RI32 0 w v xs) (hx32 : ∀ x,x ∈ xs → V32 x) (hn : xs.length ≤ 1000000) :
  Calls Tryz.prog 36 #[v] w (WPost2 xs w):=by
 obtain ⟨a,cap,rfl,_,_,hx⟩:=hv
 have HX:=hide hx
 have HV:=hide hx32
 have HN : Hid (Len xs.length ∧ Len (xs.length * 8)):=⟨by unfold Len; omega,by unfold Len; omega⟩
 have hmk:=make_rows (P:=Tryz.prog) 35 3 _ _ _ Tryz.underlying35 info_wide xs.length (by omega) (by omega)
 clear hx hx32
 go_enter Tryz.func36,Tryz.ntmps36
 go_wp2
 go_loopg [11] xs.length (fun g i wr => ∃ (k : Nat),k ≤ xs.length ∧ g = xs.length - k ∧ i = .int .i64 k ∧ BelF w.heap.size w wr ∧ RowAt wr w.heap.size xs.length ∧ Filled 1 RInt (w.heap.size + 1) wr w.heap.size xs k)
 case atStart => exact ⟨0,Nat.zero_le _,by omega,rfl,(BelF.refl _).alloc (Nat.le_refl _) _,RowAt.made _ _ _ _,fill_none _ _ _ _ _ _⟩
 case round =>
  obtain ⟨k,hk,hg,rfl,hbl,hrow,hfil⟩:=hrel
  clear hmk
  have HG:=hide hg
  have HF:=hide hfil
  have HBL:=hide hbl
  clear hg hfil
  by_cases hlt : k < xs.length
  ·obtain ⟨b,o,cs,rfl,_,hb,hcs,hc,hR⟩:=uh HX k hlt
   have hc : ∀ j (hj : j < cs.length),wr.cell? ⟨b,o + k * 1 + j,none⟩ = some cs[j]:=fun j hj => by rw [hbl.below.cell (p:=⟨b,_,none⟩) hb]; exact hc j hj
   have hR : cs = [.int .i32 xs[k]]:=hR
   subst hR
   have c0:=hc 0 (by simp)
   simp only [Nat.mul_one,Nat.add_zero,List.getElem_cons_zero,List.getElem_cons_succ] at c0
   have hsn:=uh HV _ (List.getElem_mem hlt)
   unfold V32 at hsn
   obtain ⟨x0,d0⟩:=hrow.cell (i:=k) (by omega)
   have f0:=hrow.frozen k
   have step:=fill_stepF RInt_kept RInt_lowers hlt (Nat.le_refl _) hbl (by rw [Nat.mul_one]; exact hrow) (uh HF) (BelF.refl _) rfl (cs:=[.int .i64 xs[k]]) ⟨rfl,by unfold I64; omega⟩
   simp only [Nat.mul_one] at step
   have ST:=hide step
   clear step hc hcs hbl
   generalize xs[k] = s at *
   have hltI : (k : Int) < (xs.length : Int):=by omega
   go_wp2
   go_roundg (xs.length - (k + 1))
   case measure => have:=uh HG; omega
   case rel => exact ⟨k + 1,by omega,rfl,by go_num,uh ST⟩
  ·have e : k = xs.length:=by omega
   have hb0:=hrow.lt
   have D:=hide (fill_done RInt_lowers hb0 (uh HN).2 (uh HN).1 (by have:=uh HF; rwa [e] at this))
   have HRI : Hid (RowI wr (.slice (some ⟨w.heap.size,0,none⟩) xs.length xs.length) xs.length):=⟨_,_,rfl,hn,fun _ => ⟨_,rfl,hrow⟩⟩
   have HLT:=hide hb0
   clear hrow hb0
   go_wp2
   go_ret
   exact ⟨_,rfl,⟨uh D,uh HRI,(fun b hb => by cases hb; exact Nat.le_refl _)⟩,(fun b hb => by cases hb; exact uh HLT),hbl.below⟩
theorem geo_step {B nf vn rm : Nat} {st ar : List Int} {k : DClass} (hv : vn = (varsOf k).length) (hst : st.length = nf) (har : ar.length = k.ins.length) (hrm : vn ≤ rm) (hv0 : 0 < vn) (hn : nf + rm ≤ 1000000) (hs32 : ∀ x,x ∈ st → Q32 x) (ha32 : ∀ x,x ∈ ar → Q32 x) {pa3 : Option Addr} (hpa : 0 < rm - vn → pa3 = some ⟨B,nf + vn,none⟩) :
  Geo B (putL (putL (setL (List.replicate (nf + rm) 0) nf (List.replicate vn 0)) 0 st) nf ar) 0 nf (rm - vn) (some ⟨B,0,none⟩) pa3 (.slice (some ⟨B,0,none⟩) nf nf) (.slice (some ⟨B,nf,none⟩) vn vn) (.slice pa3 (rm - vn) (rm - vn)) (startV k ar) st:=by
 have hvl:=vars_len k
 have hsl : (startV k ar).length = vn:=by
  simp only [startV,List.length_append,List.length_replicate]
  omega
 have h0 : (setL (List.replicate (nf + rm) (0 : Int)) nf (List.replicate vn 0)).length = nf + rm:=by rw [setL_len,List.length_replicate]
 have h1 : (putL (setL (List.replicate (nf + rm) (0 : Int)) nf (List.replicate vn 0)) 0 st).length = nf + rm:=by rw [putL_len _ _ _ (by omega),h0]
 have hz : ∀ p,(setL (List.replicate (nf + rm) (0 : Int)) nf (List.replicate vn 0)).getD p 0 = 0:=fun p => by
  rw [setL_get _ _ _ _ (by simp only [List.length_replicate]; omega)]
  split
  ·exact getD_rep _ _
  ·exact getD_rep _ _
 refine ⟨by rw [hsl],by rw [hst],fun _ => rfl,rfl,by rw [hsl]; exact hpa,by rw [hsl,putL_len _ _ _ (by omega),h1]; omega,by omega,by omega,fun p hp => ?_,fun p hp => ?_,fun x hx => ?_,hs32,by rw [putL_len _ _ _ (by omega),h1]; exact hn⟩
 ·rw [hsl] at hp
  rw [putL_get _ _ _ _ (by omega)]
  unfold startV
  rw [List.getD_eq_getElem?_getD (l:=ar ++ _)]
  by_cases c : p < ar.length
  ·rw [if_pos (by omega),show nf + p - nf = p by omega,List.getElem?_append_left c,List.getD_eq_getElem?_getD]
  ·rw [if_neg (by omega),putL_get _ _ _ _ (by omega),if_neg (by omega),hz,List.getElem?_append_right (by omega),← List.getD_eq_getElem?_getD,getD_rep]
 ·rw [putL_get _ _ _ _ (by omega),if_neg (by omega),putL_get _ _ _ _ (by omega),if_pos (by omega)]
  congr 1
  omega
 ·unfold startV at hx
  rcases List.mem_append.1 hx with hx | hx
  ·exact ha32 x hx
  ·have:=List.eq_of_mem_replicate hx
   unfold Q32
   omega
def stepR (ks : List DClass) (i : Nat) (st ar : List Int) : List Int × List Int × Int:=((walkR ks ks.length i st ar).1,(walkR ks ks.length i st ar).2.1,IntKind.i64.wrap (walkR ks ks.length i st ar).2.2)
theorem row_sl {w : World} {B o n c : Nat} {L xs : List Int} (hrow : BlkAt w B 21 (L.map (Value.int .i32)).toArray) (hn : xs.length = n) (hfit : o + n ≤ L.length) (hL : L.length ≤ 1000000) (hc : n ≤ c) (hx : ∀ p,p < n → L.getD (o + p) 0 = xs.getD p 0) : SlAt 1 4 RI32 0 w (.slice (some ⟨B,o,none⟩) n c) xs:=by
 subst hn
 refine ⟨_,c,rfl,⟨by unfold Len; omega,hc⟩,by unfold Len; omega,fun p hp => ⟨B,o,[.int .i32 xs[p]],rfl,Nat.zero_le _,hrow.lt,rfl,fun j hj => ?_,rfl⟩⟩
 have hj0 : j = 0:=by simpa using hj
 subst hj0
 have h9:=hx p hp
 rw [List.getD_eq_getElem?_getD (l:=xs),List.getElem?_eq_getElem hp,Option.getD_some] at h9
 rw [Nat.mul_one,Nat.add_zero,row_cell hrow _ (by omega),h9]
 rfl
set_option maxRecDepth 20000 in
set_option maxHeartbeats 8000000 in
theorem pstep_ok {W Wm : World} {ks : List DClass} {b0 o0 mc : Nat} {pl : List Nat} (hE : PEnv W Wm ks b0 o0 mc pl) (i : Nat) (k : DClass) (hk : ks[i]? = some k) (pb mb : Nat) (fa : Option Addr) (fc : Nat) (bv : Value) (X : BD) (nodes : List (TypeId × Nat)) (hc : CEnv W Wm ks b0 o0 pl i k pb mb fa fc bv X nodes) (w : World) (hold : Below W.heap.size W w) (st ar : List Int) (sv av : Value) (hs : SlAt 1 8 RInt 0 w sv st) (ha : SlAt 1 8 RInt 0 w av ar) (hsl : st.length = (fAt ks i).length) (hal : ar.length = k.ins.length) (hsv : ∀ x,x ∈ st → valB x = true) (hav : ∀ x,x ∈ ar → valB x = true) :
  Calls Tryz.prog 42 #[.pointer (some ⟨pb,0,none⟩),sv,av] w (IPost (stepR ks i st ar) w):=by
 obtain ⟨hi,hke⟩:=List.getElem?_eq_some_iff.1 hk
 obtain ⟨r1,r2,r3,_⟩:=room_facts ks hE.hp i i (Nat.le_refl _) k hk
 have hfl:=(fok_of ks hE.hp).len i hi
 have hks : ks.length ≤ 200:=by
  have h9:=hE.hp
  unfold plansB at h9
  rw [Bool.and_eq_true] at h9
  exact of_decide_eq_true h9.1
 obtain ⟨v0,v1⟩:=vars_pos hE.hp hk
 have hq32 : ∀ xs : List Int,(∀ x,x ∈ xs → valB x = true) → ∀ x,x ∈ xs → Q32 x:=fun xs h x hx => by
  have h9:=h x hx
  unfold valB at h9
  unfold Q32
  exact of_decide_eq_true h9
 obtain ⟨nf,hnf⟩ : ∃ z,z = (fAt ks i).length:=⟨_,rfl⟩
 obtain ⟨vn,hvn⟩ : ∃ z,z = (varsOf k).length:=⟨_,rfl⟩
 obtain ⟨rm,hrm⟩ : ∃ z,z = rN ks i:=⟨_,rfl⟩
 have hvl:=vars_len k
 have hrun : stepR ks i st ar = ((runR ks k (walkR ks (ks.length - 1)) (treeOf ks k) (startV k ar,st)).1.2,((runR ks k (walkR ks (ks.length - 1)) (treeOf ks k) (startV k ar,st)).1.1.drop k.ins.length).take k.outs.length,IntKind.i64.wrap (runR ks k (walkR ks (ks.length - 1)) (treeOf ks k) (startV k ar,st)).2):=by
  unfold stepR
  obtain ⟨m,hm⟩ : ∃ m,ks.length = m + 1:=⟨ks.length - 1,by omega⟩
  rw [hm,Nat.add_sub_cancel]
  simp only [walkR,hk]
 obtain ⟨t1,t2,t3,t4,t5,_⟩:=tree_of ks i k hk hE.hp
 have hcar:=carry_all hE (ks.length - 1) i k hk (by omega) (treeOf ks k)
 have hsok:=start_sok k (fAt ks i).length ar st hal hsl (hq32 ar hav) (hq32 st hsv)
 obtain ⟨Y,hY⟩ : ∃ z,z = runR ks k (walkR ks (ks.length - 1)) (treeOf ks k) (startV k ar,st):=⟨_,rfl⟩
 rw [← hY] at hrun
 have c3:=(hold.cell (World.block_lt_of_cell? W _ hc.c3)).trans hc.c3
 have c6:=(hold.cell (World.block_lt_of_cell? W _ hc.c6)).trans hc.c6
 rw [← hnf] at c3
 rw [← hrm] at c6
 obtain ⟨sa,sc,hse⟩:=hs.shape
 obtain ⟨aa,ac,hae⟩:=ha.shape
 rw [hsl,← hnf] at hse
 obtain ⟨na,hna⟩ : ∃ z,z = ar.length:=⟨_,rfl⟩
 rw [← hna] at hae
 subst hse hae
 have hsum : IntKind.i64.wrap ((nf : Int) + (rm : Int)) = ((nf + rm : Nat) : Int):=by
  rw [IntKind.wrap_i64]
  omega
 obtain ⟨tn,htn⟩ : ∃ z,z = nf + rm:=⟨_,rfl⟩
 rw [← htn] at hsum
 have hmk : (Instr.makeSlice 55 (.int .i64 (tn : Int)) (.int .i64 (tn : Int))).run Tryz.prog w = .ok (.slice (some ⟨w.heap.size,0,none⟩) tn tn) (w.alloc (.cells ((List.replicate tn (0 : Int)).map (Value.int .i32)).toArray 21)):=by
  have h9:=make_rows (P:=Tryz.prog) 55 21 (.int .i32 0) 1 4 Tryz.underlying55 (by kernel_rfl) tn (by omega) (by omega) w
  rw [Nat.mul_one] at h9
  rw [← made_zero]
  exact h9
 obtain ⟨zc,hzc⟩ : ∃ z,z = ((List.replicate tn (0 : Int)).map (Value.int .i32)).toArray:=⟨_,rfl⟩
 rw [← hzc] at hmk
 have HROW:=hide (blk_box w zc 21)
 have HB0 : Hid (Below w.heap.size w (w.alloc (.cells zc 21))):=(Below.refl _ _).alloc (Nat.le_refl _) _
 have HZC:=hide hzc
 clear hzc
 have hcut1 : ∀ w',(Instr.slice 55 (.slice (some ⟨w.heap.size,0,none⟩) tn tn) none (some (.int .i64 (nf : Int))) (some (.int .i64 (nf : Int)))).run Tryz.prog w' = .ok (.slice (some ⟨w.heap.size,0,none⟩) nf nf) w':=fun w' => by
  rw [cut32_hm _ tn tn nf nf (Nat.le_refl _) (by omega) w',Option.map_some,Addr.add_lit,Nat.zero_mul,Nat.add_zero,ite_self,Nat.sub_zero]
 have hcut2 : ∀ w',(Instr.slice 55 (.slice (some ⟨w.heap.size,0,none⟩) tn tn) (some (.int .i64 (nf : Int))) none none).run Tryz.prog w' = .ok (.slice (some ⟨w.heap.size,nf,none⟩) rm rm) w':=fun w' => by
  rw [cut32_l _ tn tn nf (by omega) w',if_neg (by omega),Option.map_some,Addr.add_lit,Nat.mul_one,Nat.zero_add,show tn - nf = rm by omega]
 have HS:=hide hs
 have HA:=hide ha
 have HC:=hide hc
 have HE:=hide hE
 have HOLD:=hide hold
 have HCAR:=hide hcar
 have HSOK:=hide hsok
 have HRUN:=hide hrun
 have HNUM : Hid (nf = (fAt ks i).length ∧ vn = (varsOf k).length ∧ rm = rN ks i ∧ tn = nf + rm ∧ na = k.ins.length ∧ st.length = nf ∧ vn ≤ rm ∧ 0 < vn ∧ nf + rm ≤ 1000000 ∧ k.ins.length + k.outs.length ≤ vn ∧ k.ins.length < vn ∧ na = ar.length):=by
  unfold declB at t5
  rw [Bool.and_eq_true] at t5
  have h5:=of_decide_eq_true t5.1
  exact hide ⟨hnf,hvn,hrm,htn,by omega,by omega,by omega,by omega,by omega,by omega,by omega,hna⟩
 have HVS:=hide hsv
 have HVA:=hide hav
 have HQ:=hide hq32
 have HT:=hide (And.intro t3 t4)
 have HY:=hide hY
 have htl : tn ≤ 1000000:=by omega
 clear hs ha hc hE hold hcar hsok hrun hnf hvn hrm htn hna hsv hav hq32 t1 t2 t3 t4 t5 hY r1 r2 r3 hfl hks v0 v1 hvl hsl hal hi hke
 obtain ⟨PO,hPO⟩ : ∃ PO : Ending → World → Prop,PO = IPost (stepR ks i st ar) w:=⟨_,rfl⟩
 rw [← hPO]
 have HPO:=hide hPO
 clear hPO
 go_enter Tryz.func42,Tryz.ntmps42
 go_wp2_with fail
 obtain ⟨w1,hw1⟩ : ∃ z,z = w.alloc (.cells zc 21):=⟨_,rfl⟩
 rw [← hw1] at HROW HB0 ⊢
 clear hw1 hmk
 rw [uh HZC] at HROW
 have HO1 : Hid (Below W.heap.size W w1):=(uh HOLD).trans ((uh HB0).mono (uh HOLD).size)
 have HFR : Hid (Calls Tryz.prog 62 #[.pointer (some ⟨pb,0,none⟩),.slice (some ⟨w.heap.size,0,none⟩) nf nf,.slice (some ⟨w.heap.size,nf,none⟩) rm rm] w1.drew fun e w' => ∃ fb pa3,e = .returned (.pointer (some ⟨fb,0,none⟩)) ∧ Hid ((w.heap.size < fb ∧ BlkAt w' fb 105 #[.pointer (some ⟨pb,0,none⟩),.slice (some ⟨w.heap.size,0,none⟩) nf nf,.slice (some ⟨w.heap.size,nf,none⟩) vn vn,.slice pa3 (rm - vn) (rm - vn),.slice none 0 0]) ∧ (0 < rm - vn → pa3 = some ⟨w.heap.size,nf + vn,none⟩) ∧ BlkAt w' w.heap.size 21 ((setL (List.replicate (nf + rm) 0) nf (List.replicate vn 0)).map (Value.int .i32)).toArray ∧ Below w.heap.size w w') ∧ w'.cell? ⟨pb,3,none⟩ = some (.slice fa nf fc)):=by
  obtain ⟨n1,n2,n3,n4,n5,n6,n7,n8,n9,_⟩:=uh HNUM
  have hc:=uh HC
  have hL : (List.replicate tn (0 : Int)).length = nf + rm:=by rw [List.length_replicate]; exact n4
  have hrow : BlkAt w1.drew w.heap.size 21 ((List.replicate tn (0 : Int)).map (Value.int .i32)).toArray:=uh HROW
  refine hide ((frame_ok W w1.drew pb mb vn (namesF (varsOf k)) (uh HO1).drew hc.c1 (by rw [n2]; exact hc.map) w.heap.size nf rm (List.replicate tn 0) hrow n8 n7 (by omega) (by omega) (some ⟨w.heap.size,0,none⟩) nf nf).mono ?_)
  rintro e w' ⟨fb,pa3,rfl,⟨hfb,hblk⟩,hp,hr,hbut⟩
  have hlt:=(uh HROW).lt
  have hbw : Below w.heap.size w w':=(uh HB0).drew.trans (hbut.below _ (uh HB0).size (fun b hb => by rw [List.mem_singleton] at hb; omega))
  rw [n4] at hr
  refine ⟨fb,pa3,rfl,hide ⟨⟨Nat.lt_of_lt_of_le hlt hfb,hblk⟩,hp,hr,hbw⟩,?_⟩
  have ho : Below W.heap.size W w':=(uh HOLD).trans (hbw.mono (uh HOLD).size)
  rw [n1]
  exact (ho.cell (World.block_lt_of_cell? W _ hc.c3)).trans hc.c3
 have d3 : w1.cell? ⟨pb,3,none⟩ = some (.slice fa nf fc):=((uh HB0).cell (World.block_lt_of_cell? w _ c3)).trans c3
 clear c3 c6 hsum
 go_region_held3 (fun w' => w'.cell? ⟨pb,3,none⟩ = some (.slice fa nf fc)) (go_keep) (first | (go_at_call 62; refine (uh HFR).mono ?_; rintro e w2 ⟨fb,pa3,rfl,HF,d3'⟩))
 clear HFR d3 d3' hcut1 hcut2 HROW
 obtain ⟨⟨h1,h2⟩,h3,h4,h5⟩:=uh HF
 have HLT:=hide h1
 have HFB:=hide h2
 have HPA:=hide h3
 have HRW:=hide h4
 have HB2:=hide h5
 have f1:=h2.cell (i:=1) (v:=.slice (some ⟨w.heap.size,0,none⟩) nf nf) rfl
 clear HF h1 h2 h3 h4 h5 HB0 HO1
 obtain ⟨L1,hL1⟩ : ∃ z,z = setL (List.replicate (nf + rm) (0 : Int)) nf (List.replicate vn 0):=⟨_,rfl⟩
 rw [← hL1] at HRW
 have HL1 : Hid (L1 = setL (List.replicate (nf + rm) (0 : Int)) nf (List.replicate vn 0) ∧ L1.length = nf + rm):=by
  refine hide ⟨hL1,?_⟩
  rw [hL1,setL_len,List.length_replicate]
 clear hL1
 have HCPY : Hid (∀ (wq : World) (L : List Int) (o n : Nat) (xs : List Int) (v : Value),SlAt 1 8 RInt 0 w v xs → (∀ x,x ∈ xs → valB x = true) → Below w.heap.size w wq → BlkAt wq w.heap.size 21 (L.map (Value.int .i32)).toArray → BlkAt wq fb 105 #[.pointer (some ⟨pb,0,none⟩),.slice (some ⟨w.heap.size,0,none⟩) nf nf,.slice (some ⟨w.heap.size,nf,none⟩) vn vn,.slice pa3 (rm - vn) (rm - vn),.slice none 0 0] → o + xs.length ≤ L.length → L.length ≤ 1000000 → xs.length ≤ n →
   Calls Tryz.prog 63 #[v] wq.drew fun e w' => ∃ g,e = .returned (.slice (some ⟨g,0,none⟩) xs.length xs.length) ∧ (∀ ty,(Builtin.copy_ #[55,55] ty #[.slice (some ⟨w.heap.size,o,none⟩) n n,.slice (some ⟨g,0,none⟩) xs.length xs.length]).run Tryz.prog w' = .ok (.int .i64 (xs.length : Int)) (w'.setRow w.heap.size ((putL L o xs).map (Value.int .i32)).toArray)) ∧ Hid (Below w.heap.size w (w'.setRow w.heap.size ((putL L o xs).map (Value.int .i32)).toArray) ∧ BlkAt (w'.setRow w.heap.size ((putL L o xs).map (Value.int .i32)).toArray) w.heap.size 21 ((putL L o xs).map (Value.int .i32)).toArray ∧ BlkAt (w'.setRow w.heap.size ((putL L o xs).map (Value.int .i32)).toArray) fb 105 #[.pointer (some ⟨pb,0,none⟩),.slice (some ⟨w.heap.size,0,none⟩) nf nf,.slice (some ⟨w.heap.size,nf,none⟩) vn vn,.slice pa3 (rm - vn) (rm - vn),.slice none 0 0]) ∧ w'.cell? ⟨fb,1,none⟩ = some (.slice (some ⟨w.heap.size,0,none⟩) nf nf) ∧ w'.cell? ⟨fb,2,none⟩ = some (.slice (some ⟨w.heap.size,nf,none⟩) vn vn)):=fun wq L o n xs v hv hb9 hbq hrow hfr hfit hLl hn => by
  have hlt:=uh HLT
  refine (narrow_ok xs v wq.drew (hv.stays RInt_kept hbq.drew) hb9 (by omega)).mono ?_
  rintro e w' ⟨g,rfl,ho,hb⟩
  have hbw : Below wq.heap.size wq w':=(Below.refl _ wq).drew.trans hb
  have hrow':=hrow.below hbw hrow.lt
  have hfr':=hfr.below hbw hfr.lt
  obtain ⟨k1,k2,k3⟩:=copy_row w' wq.drew.heap.size w.heap.size o n n L hrow' g xs ho hfit hn
  have hBw : Below w.heap.size w w':=hbq.trans (hbw.mono hbq.size)
  refine ⟨g,rfl,k1,hide ⟨hBw.trans (k3.below _ hBw.size (fun b hb => by rw [List.mem_singleton] at hb; omega)),k2,k3.blk hfr' (by rw [List.mem_singleton]; omega)⟩,hfr'.cell (i:=1) rfl,hfr'.cell (i:=2) rfl⟩
 have HC1 : Hid _:=hide (uh HCPY w2 L1 0 nf st _ (uh HS) (uh HVS) (uh HB2) (uh HRW) (uh HFB) (by have h1:=uh HNUM; have h2:=(uh HL1).2; omega) (by have h1:=uh HNUM; have h2:=(uh HL1).2; omega) (by have h1:=uh HNUM; omega))
 have hstn : st.length = nf:=(uh HNUM).2.2.2.2.2.1
 obtain ⟨L2,hL2⟩ : ∃ z,z = putL L1 0 st:=⟨_,rfl⟩
 rw [hstn,← hL2] at HC1
 have HL2 : Hid (L2 = putL L1 0 st ∧ L2.length = nf + rm):=by
  have h1:=uh HL1
  have h2:=uh HNUM
  refine hide ⟨hL2,?_⟩
  rw [hL2,putL_len _ _ _ (by omega)]
  exact h1.2
 clear hstn hL2
 go_wp2_with fail
 go_region_held3 (fun w' => w'.cell? ⟨fb,1,none⟩ = some (.slice (some ⟨w.heap.size,0,none⟩) nf nf)) (first | exact (uh HN3).2.2.cell (i:=1) rfl | go_keep) (first | (go_at_call 63; refine (uh HC1).mono ?_; rintro e w3 ⟨g,rfl,hcp,HN3,b1,b2⟩))
 obtain ⟨h3,h4,h5⟩:=uh HN3
 obtain ⟨w4,hw4⟩ : ∃ z,z = w3.setRow w.heap.size (L2.map (Value.int .i32)).toArray:=⟨_,rfl⟩
 rw [← hw4] at h3 h4 h5 ⊢
 clear hw4 hcp HN3 b1 b2 f1 HC1
 have HB4:=hide h3
 have f2:=h5.cell (i:=2) (v:=.slice (some ⟨w.heap.size,nf,none⟩) vn vn) rfl
 have HC2 : Hid _:=hide (uh HCPY w4 L2 nf vn ar _ (uh HA) (uh HVA) h3 h4 h5 (by have h1:=uh HNUM; have h2:=(uh HL2).2; omega) (by have h1:=uh HNUM; have h2:=(uh HL2).2; omega) (by have h1:=uh HNUM; omega))
 have harn : ar.length = na:=(uh HNUM).2.2.2.2.2.2.2.2.2.2.2.symm
 obtain ⟨L3,hL3⟩ : ∃ z,z = putL L2 nf ar:=⟨_,rfl⟩
 rw [harn,← hL3] at HC2
 have HL3:=hide hL3
 clear harn hL3 h3 h4 h5 HCPY
 go_wp2_with fail
 go_region_held3 (fun w' => w'.cell? ⟨fb,2,none⟩ = some (.slice (some ⟨w.heap.size,nf,none⟩) vn vn)) (first | exact (uh HN5).2.2.cell (i:=2) rfl | go_keep) (first | (go_at_call 63; refine (uh HC2).mono ?_; rintro e w5 ⟨g5,rfl,hcp,HN5,b1,b2⟩))
 obtain ⟨h3,h4,h5⟩:=uh HN5
 obtain ⟨w6,hw6⟩ : ∃ z,z = w5.setRow w.heap.size (L3.map (Value.int .i32)).toArray:=⟨_,rfl⟩
 rw [← hw6] at h3 h4 h5 ⊢
 clear hw6 hcp HN5 b1 b2 f2 HC2
 have HB6:=hide h3
 have HO6 : Hid (Below W.heap.size W w6):=(uh HOLD).trans (h3.mono (uh HOLD).size)
 have hc:=uh HC
 have p4:=((uh HO6).cell (World.block_lt_of_cell? W _ hc.c4)).trans hc.c4
 obtain ⟨ba,bc,hbe⟩:=hc.body.shape
 obtain ⟨bn,hbn⟩ : ∃ z,z = nodes.length:=⟨_,rfl⟩
 rw [← hbn] at hbe
 have HGEO : Hid (Geo w.heap.size L3 0 nf (rm - vn) (some ⟨w.heap.size,0,none⟩) pa3 (.slice (some ⟨w.heap.size,0,none⟩) nf nf) (.slice (some ⟨w.heap.size,nf,none⟩) vn vn) (.slice pa3 (rm - vn) (rm - vn)) (startV k ar) st):=by
  obtain ⟨n1,n2,n3,n4,n5,n6,n7,n8,n9,n10,n11,n12⟩:=uh HNUM
  rw [uh HL3,(uh HL2).1,(uh HL1).1]
  exact hide (geo_step n2 n6 (by omega) n7 n8 n9 (uh HQ st (uh HVS)) (uh HQ ar (uh HVA)) (uh HPA))
 have hws : W.heap.size ≤ w.heap.size:=(uh HOLD).size
 have HDYN : Hid (Dyn W w6 w6.heap.size fb pb w.heap.size L3 (.slice (some ⟨w.heap.size,0,none⟩) nf nf) (.slice (some ⟨w.heap.size,nf,none⟩) vn vn) (.slice pa3 (rm - vn) (rm - vn)) (.slice none 0 0)) :=
  ⟨uh HO6,h5,h4,⟨[],OwnV.nil w6 _⟩,by have:=uh HLT; omega,hws,h4.lt,Nat.le_refl _⟩
 have HCA : Hid (∀ w7,Below w6.heap.size w6 w7 → Calls Tryz.prog 64 #[.pointer (some ⟨fb,0,none⟩),.slice ba bn bc] w7 fun e w' => e = .returned (.int .i64 (IntKind.i64.wrap Y.2)) ∧ Hid (∃ L' stk',CarIn W w6 w' w6.heap.size fb pb w.heap.size L3 L' (.slice (some ⟨w.heap.size,0,none⟩) nf nf) (.slice (some ⟨w.heap.size,nf,none⟩) vn vn) (.slice pa3 (rm - vn) (rm - vn)) (.slice none 0 0) stk' 0 nf (rm - vn) (some ⟨w.heap.size,0,none⟩) pa3 nf vn Y.1)):=fun w7 hb7 => by
  obtain ⟨n1,n2,n3,n4,n5,n6,n7,n8,n9,n10,n11,n12⟩:=uh HNUM
  have hc0 : CarIn W w6 w7 w6.heap.size fb pb w.heap.size L3 L3 (.slice (some ⟨w.heap.size,0,none⟩) nf nf) (.slice (some ⟨w.heap.size,nf,none⟩) vn vn) (.slice pa3 (rm - vn) (rm - vn)) (.slice none 0 0) (.slice none 0 0) 0 nf (rm - vn) (some ⟨w.heap.size,0,none⟩) pa3 nf vn (startV k ar,st):=(CarIn.refl (uh HDYN) (uh HGEO) ((uh HSOK).vl.trans n2.symm) n6).below hb7
  refine (uh HCAR w7 w6.heap.size fb pb mb w.heap.size L3 _ _ _ _ 0 nf (rm - vn) _ pa3 (startV k ar,st) X nodes _ hc0.dyn hc0.geo ⟨hc.c1,hc.map⟩ (uh HSOK) (by omega) hc.Xk hc.Xm hc.ins (by rw [hbn] at hbe; rw [hbn,← hbe]; exact hc.body) hc.nodes (uh HT).2 (uh HT).1).mono ?_
  rintro e w' ⟨rfl,L',stk',h9⟩
  rw [← n1,← n2,← uh HY] at h9
  rw [← uh HY]
  exact ⟨rfl,L',stk',hc0.go h9⟩
 rw [hbe] at p4
 clear h3 h4 h5 hbe hbn hc HGEO HDYN HCAR HSOK HL1 HL2 HL3 HRW HB2 HB4 HFB
 go_wp2_with fail
 refine (uh HCA w6 (Below.refl _ _)).mono ?_
 rintro e w7 ⟨rfl,HC7⟩
 obtain ⟨L',stk',h7⟩:=uh HC7
 have HB7 : Hid (Below w.heap.size w w7):=(uh HB6).trans (h7.but.below _ (uh HB6).size (fun b hb => by
  have hlt:=uh HLT
  rcases List.mem_cons.1 hb with hb | hb
  ·omega
  rcases List.mem_cons.1 hb with hb | hb
  ·omega
  ·cases hb))
 have HFIN : Hid (Calls Tryz.prog 36 #[.slice (some ⟨w.heap.size,0,none⟩) nf nf] w7 fun e w8 => ∃ v0,e = .returned v0 ∧ Hid (Calls Tryz.prog 65 #[.pointer (some ⟨fb,0,none⟩)] w8 fun e w9 => e = .returned (.slice (some ⟨w.heap.size,nf + k.ins.length,none⟩) k.outs.length (vn - k.ins.length)) ∧ Hid (Calls Tryz.prog 36 #[.slice (some ⟨w.heap.size,nf + k.ins.length,none⟩) k.outs.length (vn - k.ins.length)] w9 fun e w10 => ∃ v1,e = .returned v1 ∧ Hid (PO (.returned (.tuple #[v0,v1,.int .i64 (IntKind.i64.wrap Y.2)])) w10) ∧ w10.cell? ⟨fb,1,none⟩ = some (.slice (some ⟨w.heap.size,0,none⟩) nf nf)) ∧ w9.cell? ⟨fb,1,none⟩ = some (.slice (some ⟨w.heap.size,0,none⟩) nf nf)) ∧ w8.cell? ⟨fb,1,none⟩ = some (.slice (some ⟨w.heap.size,0,none⟩) nf nf)):=by
  obtain ⟨n1,n2,n3,n4,n5,n6,n7,n8,n9,n10,n11,n12⟩:=uh HNUM
  have g1:=h7.geo.vl
  have g2:=h7.vl
  have g3:=h7.sl
  have g4:=h7.geo.ln
  have g5:=h7.geo.sl
  have hS0 : SlAt 1 4 RI32 0 w7 (.slice (some ⟨w.heap.size,0,none⟩) nf nf) Y.1.2:=row_sl (show BlkAt w7 w.heap.size 21 (L'.map (Value.int .i32)).toArray from h7.dyn.row) g3 (by omega) g4 (Nat.le_refl _) (fun p hp => h7.geo.ss p (by omega))
  refine hide ((wide2_ok Y.1.2 _ w7 hS0 (fun x hx => h7.geo.sq x hx) (by omega)).mono ?_)
  rintro e w8 ⟨v0,rfl,ho0,hl0,hb8⟩
  have hb78 : Below w7.heap.size w7 w8:=hb8
  have d8:=h7.dyn.stays hb78
  refine ⟨v0,rfl,hide ?_,d8.fr.cell (i:=1) rfl⟩
  have hc:=uh HC
  obtain ⟨x1,y1,e1⟩:=hc.ci
  obtain ⟨x2,y2,e2⟩:=hc.co
  have cc : ∀ {p : Addr} {v : Value},W.cell? p = some v → w8.cell? p = some v:=fun {p v} h9 => (d8.old.cell (World.block_lt_of_cell? W _ h9)).trans h9
  refine (outs_ok w8 fb pb b0 (o0 + i * 7) w.heap.size nf vn k.ins.length k.outs.length x1 x2 y1 y2 (d8.fr.cell (i:=0) rfl) (d8.fr.cell (i:=2) rfl) (cc hc.c0) (cc e1) (cc e2) n10 n11 (by omega)).mono ?_
  rintro e w9 ⟨rfl,hb9⟩
  have d9:=d8.stays hb9
  refine ⟨rfl,hide ?_,d9.fr.cell (i:=1) rfl⟩
  have hOl : ((Y.1.1.drop k.ins.length).take k.outs.length).length = k.outs.length:=by
   rw [List.length_take,List.length_drop]
   omega
  have hS1 : SlAt 1 4 RI32 0 w9 (.slice (some ⟨w.heap.size,nf + k.ins.length,none⟩) k.outs.length (vn - k.ins.length)) ((Y.1.1.drop k.ins.length).take k.outs.length):=row_sl d9.row hOl (by omega) g4 (by omega) (fun p hp => by
   rw [Nat.add_assoc,h7.geo.vs (k.ins.length + p) (by omega),List.getD_eq_getElem?_getD,List.getD_eq_getElem?_getD,List.getElem?_take,if_pos hp,List.getElem?_drop])
  refine (wide2_ok _ _ w9 hS1 (fun x hx => h7.geo.vq x (List.mem_of_mem_drop (List.mem_of_mem_take hx))) (by omega)).mono ?_
  rintro e w10 ⟨v1,rfl,ho1,hl1,hb10⟩
  have d10:=d9.stays hb10
  have hB7:=uh HB7
  have hB8 : Below w.heap.size w w8:=hB7.trans (hb78.mono hB7.size)
  have hB9 : Below w.heap.size w w9:=hB8.trans (hb9.mono hB8.size)
  have h8_10 : Below w8.heap.size w8 w10:=hb9.trans (hb10.mono hb9.size)
  refine ⟨v1,rfl,hide ?_,d10.fr.cell (i:=1) rfl⟩
  rw [uh HPO,uh HRUN]
  refine ⟨v0,v1,rfl,⟨(ho0.sl.stays RInt_kept h8_10).lower RInt_lowers hB7.size,ho0.row.same (fun g hg hlt => h8_10.block g hlt),fun b hb => by have h1:=ho0.own b hb; have h2:=hB7.size; omega⟩,⟨ho1.sl.lower RInt_lowers hB9.size,ho1.row,fun b hb => by have h1:=ho1.own b hb; have h2:=hB9.size; omega⟩,fun b hb hb' => ?_,hB9.trans (hb10.mono hB9.size)⟩
  have h1:=hl0 b hb
  have h2:=ho1.own b hb'
  have h3:=hb9.size
  omega
 have f1:=h7.dyn.fr.cell (i:=1) (v:=.slice (some ⟨w.heap.size,0,none⟩) nf nf) rfl
 have HF:=hide HFIN
 obtain ⟨nk,hnk⟩ : ∃ z,z = k.outs.length:=⟨_,rfl⟩
 obtain ⟨nc,hnc⟩ : ∃ z,z = vn - k.ins.length:=⟨_,rfl⟩
 obtain ⟨nv,hnv⟩ : ∃ z,z = nf + k.ins.length:=⟨_,rfl⟩
 rw [← hnk,← hnc,← hnv] at HFIN
 clear h7 HC7 HCA HF hnk hnc hnv p4
 go_wp2_with fail
 refine (uh HFIN).mono ?_
 rintro e w8 ⟨v0,rfl,H8,b8⟩
 go_wp2_with fail
 refine (uh H8).mono ?_
 rintro e w9 ⟨rfl,H9,b9⟩
 go_wp2_with fail
 refine (uh H9).mono ?_
 rintro e w10 ⟨v1,rfl,H10,b10⟩
 go_wp2
 go_ret3
 exact uh H10
theorem has_plans2 (ks : List DClass) (c : Int) : (plansB ks && decide (0 ≤ c ∧ c < (ks.length : Int))) = hasB ks c:=by
 unfold hasB
 rw [← plans_mach]
 cases plansB ks
 ·rfl
 ·rw [Bool.true_and,Bool.true_and,Bool.eq_iff_iff,Bool.and_eq_true,decide_eq_true_iff,decide_eq_true_iff]
  constructor
  ·intro h; exact ⟨by omega,h⟩
  ·rintro ⟨_,h⟩; exact h
theorem all_val (xs : List Int) : xs.all memB = xs.all valB:=by congr 1; funext v; exact mem_val v
theorem nil_own (w w' : World) : OwnI w w' (.slice none 0 0) []:=⟨nil_ints w' none 0 _,⟨none,0,rfl,by simp,fun h => absurd h (Nat.lt_irrefl _)⟩,(fun b hb => by cases hb)⟩
theorem no_post {ks : List DClass} {c : Int} {st ar : List Int} {w w' : World} (h : stepOK ks c st ar = false) (hb : Below w.heap.size w w') : IPost (stepA ks c st ar) w (.returned (.tuple #[.slice none 0 0,.slice none 0 0,.int .i64 (-1)])) w':=by
 rw [stepA_no h]
 exact ⟨_,_,rfl,nil_own _ _,nil_own _ _,(fun b hb => by cases hb),hb⟩
set_option maxRecDepth 20000 in
set_option maxHeartbeats 8000000 in
theorem implStep_ok (ks : List DClass) (mv sv av : Value) (c : Int) (st ar : List Int) (w : World) (hm : SlAt 7 160 RClass 0 w mv ks) (hs : SlAt 1 8 RInt 0 w sv st) (ha : SlAt 1 8 RInt 0 w av ar) :
  Calls Tryz.prog 25 #[.agg #[mv],.int .i64 c,sv,av] w (IPost (stepA ks c st ar) w):=by
 obtain ⟨ma,mc,rfl⟩:=hm.shape
 obtain ⟨sa,sc,rfl⟩:=hs.shape
 obtain ⟨aa,ac,rfl⟩:=ha.shape
 have lm:=hm.lenI
 have ls:=hs.lenI
 have la:=ha.lenI
 have hA : Below w.heap.size w (w.alloc (.cells #[.slice ma ks.length mc] 29)):=(Below.refl _ _).alloc (Nat.le_refl _) _
 obtain ⟨b0,o0,hb0⟩:=addr_of hm
 have HP:=hide (planAt_full ks _ b0 o0 c _ (hm.stays RClass_kept hA) hb0)
 have HA:=hide hA
 have HM:=hide hm
 have HS:=hide hs
 have HAR:=hide ha
 have HB0:=hide hb0
 have HOK : Hid (stepOK ks c st ar = ((plansB ks && decide (0 ≤ c ∧ c < (ks.length : Int))) && (decide (st.length = (fAt ks c.toNat).length) && (decide (∃ k,ks[c.toNat]? = some k ∧ ar.length = k.ins.length) && (st.all valB && ar.all valB))))):=by
  unfold stepOK
  rw [has_plans2,all_val,all_val]
  exact hide rfl
 clear hm hs ha hA hb0
 obtain ⟨PO,hPO⟩ : ∃ PO : Ending → World → Prop,PO = IPost (stepA ks c st ar) w:=⟨_,rfl⟩
 rw [← hPO]
 have HNO : Hid (∀ w',stepOK ks c st ar = false → Below w.heap.size w w' → PO (.returned (.tuple #[.slice none 0 0,.slice none 0 0,.int .i64 (-1)])) w'):=fun w' h hb => by
  rw [hPO]
  exact no_post h hb
 have HPO:=hide hPO
 clear hPO
 obtain ⟨R,hR⟩ : ∃ R,R = (plansB ks && decide (0 ≤ c ∧ c < (ks.length : Int))):=⟨_,rfl⟩
 rw [← hR] at HP HOK
 have HR:=hide hR
 clear hR
 cases R
 ·go_enter Tryz.func25,Tryz.ntmps25
  go_wp2_with fail
  refine (uh HP).mono ?_
  rintro e w1 ⟨h1,_,hb1⟩
  have h1':=h1 rfl
  subst h1'
  have HB:=hide ((uh HA).trans (hb1.mono (uh HA).size))
  have HE:=hide (uh HNO w1 (by rw [uh HOK]; rfl) (uh HB))
  clear hb1 h1
  go_wp2
  go_ret3
  exact uh HE
 ·go_enter Tryz.func25,Tryz.ntmps25
  go_wp2_with fail
  refine (uh HP).mono ?_
  rintro e w1 ⟨_,h1,hb1⟩
  obtain ⟨pb,i,pl,Wm,⟨rfl,hi,rfl,hpi,hpl⟩,hpa,hep,hex,hbm,hbW⟩:=h1 rfl
  have HB:=hide ((uh HA).trans (hb1.mono (uh HA).size))
  have hp : plansB ks = true:=by
   have h9:=uh HR
   rw [eq_comm,Bool.and_eq_true] at h9
   exact h9.1
  obtain ⟨_,_,hmae⟩:=uh HB0 (by intro e; rw [e] at hi; exact absurd hi (Nat.not_lt_zero _))
  simp only [Value.slice.injEq] at hmae
  obtain ⟨rfl,_,_⟩:=hmae
  have hwm : Below w.heap.size w Wm:=(uh HA).trans (hbm.mono (uh HA).size)
  have hE : PEnv w1 Wm ks b0 o0 mc pl:=⟨hp,hpl,hep,hex,hbW,(uh HM).stays RClass_kept hwm⟩
  obtain ⟨k,hk⟩ : ∃ k,ks[i]? = some k:=⟨_,List.getElem?_eq_getElem hi⟩
  obtain ⟨pb',mb,fa,fc,bv,X,nodes,hc⟩:=cenv_of hE i k hk
  obtain rfl : pb' = pb:=by
   have h9:=hc.hpb.symm.trans hpi
   simpa using h9
  have c3:=hc.c3
  have c0:=hc.c0
  obtain ⟨a1,n1,ci⟩:=hc.ci
  have HST : Hid (st.length = (fAt ks i).length → ar.length = k.ins.length → st.all valB = true → ar.all valB = true → Calls Tryz.prog 42 #[.pointer (some ⟨pb',0,none⟩),.slice sa st.length sc,.slice aa ar.length ac] = Calls Tryz.prog 42 #[.pointer (some ⟨pb',0,none⟩),.slice sa st.length sc,.slice aa ar.length ac] ∧ ∀ w2,Below w1.heap.size w1 w2 → Calls Tryz.prog 42 #[.pointer (some ⟨pb',0,none⟩),.slice sa st.length sc,.slice aa ar.length ac] w2 fun e w' => ∃ g0 g1 cst,e = .returned (.tuple #[g0,g1,.int .i64 cst]) ∧ Hid (PO (.returned (.tuple #[g0,g1,.int .i64 cst])) w')):=fun e1 e2 e3 e4 => ⟨rfl,fun w2 hb2 => by
   have hw2 : Below w.heap.size w w2:=(uh HB).trans (hb2.mono (uh HB).size)
   have hok : stepOK ks (i : Int) st ar = true:=by
    rw [uh HOK,Int.toNat_natCast,decide_eq_true e1,decide_eq_true (⟨k,hk,e2⟩ : ∃ k,ks[i]? = some k ∧ ar.length = k.ins.length),e3,e4]
    rfl
   refine (pstep_ok hE i k hk pb' mb fa fc bv X nodes hc w2 hb2 st ar _ _ ((uh HS).stays RInt_kept hw2) ((uh HAR).stays RInt_kept hw2) e1 e2 (List.all_eq_true.1 e3) (List.all_eq_true.1 e4)).mono ?_
   rintro e w' ⟨g0,g1,rfl,h3,h4,h5,h6⟩
   refine ⟨g0,g1,_,rfl,hide ?_⟩
   rw [uh HPO]
   unfold stepA
   rw [if_pos hok,Int.toNat_natCast]
   have lift : ∀ (v : Value) (xs : List Int),OwnI w2 w' v xs → OwnI w w' v xs:=fun v xs h => ⟨h.sl.lower RInt_lowers hw2.size,h.row,fun b hb => Nat.le_trans hw2.size (h.own b hb)⟩
   exact ⟨g0,g1,rfl,lift _ _ h3,lift _ _ h4,h5,hw2.trans (h6.mono hw2.size)⟩⟩
  have HEV : Hid (∀ w2,Below w1.heap.size w1 w2 → Calls Tryz.prog 40 #[.slice sa st.length sc,.func (.func 41) #[] #[]] w2 (Ans (.bool (st.all valB)) w2) ∧ Calls Tryz.prog 40 #[.slice aa ar.length ac,.func (.func 41) #[] #[]] w2 (Ans (.bool (ar.all valB)) w2)):=fun w2 hb2 => by
   have hw2 : Below w.heap.size w w2:=(uh HB).trans (hb2.mono (uh HB).size)
   exact ⟨mems_ok st _ w2 ((uh HS).stays RInt_kept hw2),mems_ok ar _ w2 ((uh HAR).stays RInt_kept hw2)⟩
  have HNO2 : Hid (∀ w2,Below w1.heap.size w1 w2 → (st.length = (fAt ks i).length → ar.length = k.ins.length → st.all valB = true → ar.all valB = true → False) → PO (.returned (.tuple #[.slice none 0 0,.slice none 0 0,.int .i64 (-1)])) w2):=fun w2 hb2 hno => by
   refine uh HNO w2 ?_ ((uh HB).trans (hb2.mono (uh HB).size))
   rw [Bool.eq_false_iff]
   intro h9
   rw [uh HOK,Int.toNat_natCast] at h9
   simp only [Bool.true_and,Bool.and_eq_true] at h9
   obtain ⟨x1,x2,x3,x4⟩:=h9
   obtain ⟨k',y1,y2⟩:=of_decide_eq_true x2
   rw [hk] at y1
   cases y1
   exact hno (of_decide_eq_true x1) y2 x3 x4
  have ci9 : (fAt ks i).length ≤ 1000000:=by have:=(fok_of ks hp).len i hi; omega
  have ci8 : k.ins.length ≤ 1000000:=by have:=(vars_pos hp hk).2; have:=vars_len k; omega
  clear hE hc hep hex hpa hbm hbW hwm h1 hpi hpl hb1 HP HOK HNO HR HM HB0
  generalize st.all valB = sb at *
  generalize ar.all valB = ab at *
  generalize hnf : (fAt ks i).length = nf at *
  generalize hni : k.ins.length = ni at *
  clear hnf hni
  by_cases g1 : st.length = nf
  case neg =>
   have q1 : ((st.length : Int) != (nf : Int)) = true:=by simp only [bne_iff_ne,ne_eq]; omega
   have HE:=hide (uh HNO2 w1 (Below.refl _ _) (fun h => absurd h g1))
   clear g1 HNO2 HST HEV
   go_wp2
   go_ret3
   exact uh HE
  by_cases g2 : ar.length = ni
  case neg =>
   have q1 : ((st.length : Int) != (nf : Int)) = false:=by simp only [bne_eq_false_iff_eq]; omega
   have q2 : ((ar.length : Int) != (ni : Int)) = true:=by simp only [bne_iff_ne,ne_eq]; omega
   have HE:=hide (uh HNO2 w1 (Below.refl _ _) (fun _ h => absurd h g2))
   clear g1 g2 HNO2 HST HEV
   go_wp2
   go_ret3
   exact uh HE
  have q1 : ((st.length : Int) != (nf : Int)) = false:=by simp only [bne_eq_false_iff_eq]; omega
  have q2 : ((ar.length : Int) != (ni : Int)) = false:=by simp only [bne_eq_false_iff_eq]; omega
  have HG1:=hide g1
  have HG2:=hide g2
  clear g1 g2
  cases sb
  ·have HE : Hid (∀ w2,Below w1.heap.size w1 w2 → PO (.returned (.tuple #[.slice none 0 0,.slice none 0 0,.int .i64 (-1)])) w2):=fun w2 hb2 => uh HNO2 w2 hb2 (fun _ _ h => by cases h)
   clear HNO2 HST
   go_wp2_with fail
   refine (uh HEV w1 (Below.refl _ _)).1.mono ?_
   rintro e w2 ⟨rfl,hb2⟩
   have HE2:=hide (uh HE w2 hb2)
   clear hb2
   go_wp2
   go_ret3
   exact uh HE2
  cases ab
  ·have HE : Hid (∀ w2,Below w1.heap.size w1 w2 → PO (.returned (.tuple #[.slice none 0 0,.slice none 0 0,.int .i64 (-1)])) w2):=fun w2 hb2 => uh HNO2 w2 hb2 (fun _ _ _ h => by cases h)
   clear HNO2 HST
   go_wp2_with fail
   refine (uh HEV w1 (Below.refl _ _)).1.mono ?_
   rintro e w2 ⟨rfl,hb2⟩
   have HB2:=hide hb2
   clear hb2
   go_wp2_with fail
   refine (uh HEV w2 (uh HB2)).2.mono ?_
   rintro e w3 ⟨rfl,hb3⟩
   have HE2:=hide (uh HE w3 ((uh HB2).trans (hb3.mono (uh HB2).size)))
   clear hb3
   go_wp2
   go_ret3
   exact uh HE2
  have HST2:=hide (uh HST (uh HG1) (uh HG2) rfl rfl).2
  clear HNO2 HST
  go_wp2_with fail
  refine (uh HEV w1 (Below.refl _ _)).1.mono ?_
  rintro e w2 ⟨rfl,hb2⟩
  have HB2:=hide hb2
  clear hb2
  go_wp2_with fail
  refine (uh HEV w2 (uh HB2)).2.mono ?_
  rintro e w3 ⟨rfl,hb3⟩
  have HB3:=hide ((uh HB2).trans (hb3.mono (uh HB2).size))
  clear hb3
  go_wp2_with fail
  refine (uh HST2 w3 (uh HB3)).mono ?_
  rintro e w4 ⟨v0,v1,cst,rfl,HFIN⟩
  go_wp2
  go_ret3
  exact uh HFIN
end Go.Proofs.YtjjldnkhadakcaaGreat
