import Derived.Test.YtjjldnkhadakcaaGreatST3
import Derived.Test.YtjjldnkhadakcaaGreatMI5
import Derived.Lib.SliceRun
import Derived.Laws.CopyRow
import Derived.Deep.RegionHeld3
namespace Go.Proofs.YtjjldnkhadakcaaGreat
open Go.RowKit
set_option linter.unusedSimpArgs false
set_option linter.unusedVariables false
structure FrIn (w : World) (fb pb mb : Nat) (vs : List ByteArray) (B so vo : Nat) (sa : Option Addr) (vars state : List Int) : Prop where
 f0 : w.cell? ⟨fb,0,none⟩ = some (.pointer (some ⟨pb,0,none⟩))
 f1 : w.cell? ⟨fb,1,none⟩ = some (.slice sa state.length state.length)
 f2 : w.cell? ⟨fb,2,none⟩ = some (.slice (some ⟨B,vo,none⟩) vars.length vars.length)
 p1 : w.cell? ⟨pb,1,none⟩ = some (.map (some mb))
 map : MapN w mb vs.length (namesF vs)
 vals : ∀ p,p < vars.length → w.cell? ⟨B,vo + p,none⟩ = some (.int .i32 (vars.getD p 0))
 cells : ∀ p,p < state.length → sa = some ⟨B,so,none⟩ ∧ w.cell? ⟨B,so + p,none⟩ = some (.int .i32 (state.getD p 0))
 vn : vars.length ≤ 1000000
 sn : state.length ≤ 1000000
 vq : ∀ x,x ∈ vars → Q32 x
 sq : ∀ x,x ∈ state → Q32 x
theorem FrIn.stays {w w' : World} {fb pb mb : Nat} {vs : List ByteArray} {B so vo : Nat} {sa : Option Addr} {vars state : List Int} (h : FrIn w fb pb mb vs B so vo sa vars state) (hb : Below w.heap.size w w') : FrIn w' fb pb mb vs B so vo sa vars state:=by
 have c : ∀ {p : Addr} {v : Value},w.cell? p = some v → w'.cell? p = some v:=fun {p v} h9 => (hb.cell (World.block_lt_of_cell? w _ h9)).trans h9
 exact ⟨c h.f0,c h.f1,c h.f2,c h.p1,h.map.below hb h.map.lt,fun p hp => c (h.vals p hp),fun p hp => ⟨(h.cells p hp).1,c (h.cells p hp).2⟩,h.vn,h.sn,h.vq,h.sq⟩
theorem ret_i32x {a b : Int} (h : a = b) : Ending.returned (.int .i32 a) = .returned (.int .i32 b):=by rw [h]
theorem wrap_id32 {x : Int} (h : Q32 x) : IntKind.i32.wrap x = x:=by
 unfold Q32 at h
 rw [IntKind.wrap_i32]
 omega
set_option maxRecDepth 20000 in
set_option maxHeartbeats 4000000 in
theorem result_ok (w : World) (fb pb mb : Nat) (vs : List ByteArray) (B so vo : Nat) (sa : Option Addr) (vars state us : List Int) (h : FrIn w fb pb mb vs B so vo sa vars state) (t : DItem) (ht : Len t.name.size) (hev : EvOK vs vars state t) (hul : us.length = arF t.op) (hu : ∀ u,u ∈ us → Q32 u)
  (oa : Option Addr) (oc : Nat) (ho : ∀ i (hi : i < us.length),∃ b o,oa = some ⟨b,o,none⟩ ∧ w.cell? ⟨b,o + i,none⟩ = some (.int .i32 us[i])) :
  Calls Tryz.prog 112 #[.pointer (some ⟨fb,0,none⟩),.agg #[.int .i64 t.op,.int .i64 t.val,.string t.name],.slice oa us.length oc] w (Ans (.int .i32 (evF vs vars state t us)) w):=by
 have hA : Below w.heap.size w (w.alloc (.cells #[.int .i64 t.op,.int .i64 t.val,.string t.name] 160)):=(Below.refl _ _).alloc (Nat.le_refl _) _
 have HA:=hide hA
 have HF:=hide (h.stays hA)
 have HO : Hid (∀ i (hi : i < us.length),∃ b o,oa = some ⟨b,o,none⟩ ∧ (w.alloc (.cells #[.int .i64 t.op,.int .i64 t.val,.string t.name] 160)).cell? ⟨b,o + i,none⟩ = some (.int .i32 us[i])):=fun i hi => by
  obtain ⟨b,o,e1,e2⟩:=ho i hi
  exact ⟨b,o,e1,(hA.cell (World.block_lt_of_cell? w _ e2)).trans e2⟩
 have HBX:=hide (blk_box w #[.int .i64 t.op,.int .i64 t.val,.string t.name] 160)
 clear h ho hA
 have h9:=ht
 unfold Len at h9
 have hnl : t.name.size ≤ maxLen:=by unfold maxLen; omega
 clear h9
 obtain ⟨op,val,name⟩:=t
 simp only at *
 have HEV:=hide hev
 by_cases h12 : op = 1 ∨ op = 2
 ·have HV : Hid (evF vs vars state ⟨op,val,name⟩ us = val):=by refine hide ?_; unfold evF; rw [if_pos h12]
  have hw:=wrap_id32 (hev.num h12)
  generalize evF vs vars state ⟨op,val,name⟩ us = R at *
  clear hev HF HO HBX HEV
  rcases h12 with rfl | rfl
  all_goals
   go_enter Tryz.func112,Tryz.ntmps112
   go_wp2
   go_ret
   exact ⟨ret_i32x (uh HV).symm,uh HA⟩
 by_cases h3 : op = 3
 ·subst h3
  obtain ⟨p0,p1⟩:=hev.var rfl
  obtain ⟨p,hp⟩:=Int.eq_ofNat_of_zero_le p0
  have HV : Hid (evF vs vars state ⟨3,val,name⟩ us = vars.getD p 0):=by
   refine hide ?_
   unfold evF
   rw [if_neg (by simp),if_pos rfl]
   simp only [hp,Int.toNat_natCast]
  simp only at hp p1
  have q0:=(uh HF).f0
  have q2:=(uh HF).f2
  have q1:=(uh HF).p1
  have q3:=(uh HF).vals p (by omega)
  have hlk : ∀ nq,(Instr.lookup 53 (.map (some mb)) (.string name) false).run Tryz.prog ((w.alloc (.cells #[.int .i64 3,.int .i64 val,.string name] 160)).drewN nq) = .ok (.int .i64 (p : Int)) ((w.alloc (.cells #[.int .i64 3,.int .i64 val,.string name] 160)).drewN nq):=fun nq => by
   have h9:=((uh HF).map.below (below_dn _ nq) (uh HF).map.lt).look Tryz.underlying9 Tryz.underlying53 (zeroInt _) hnl
   rw [namesF_hit vs name (by omega),Option.getD_some,hp] at h9
   exact h9
  have hvn:=(uh HF).vn
  have hpI : (p : Int) < (vars.length : Int):=by omega
  have b2:=(uh HBX).cell (i:=2) (v:=.string name) rfl
  generalize evF vs vars state ⟨3,val,name⟩ us = R at *
  generalize vars.getD p 0 = r at *
  generalize vars.length = vn at *
  clear hev HF HO HBX HEV hp p0 p1 hul hu
  go_enter Tryz.func112,Tryz.ntmps112
  go_wp2_with fail
  generalize w.alloc (.cells #[.int .i64 3,.int .i64 val,.string name] 160) = wA at *
  go_quiet ((fail))
  go_wp2
  go_ret
  exact ⟨ret_i32x (uh HV).symm,below_dN (uh HA) _⟩
 by_cases h25 : op = 25
 ·subst h25
  obtain ⟨p0,p1⟩:=hev.mem rfl
  obtain ⟨p,hp⟩:=Int.eq_ofNat_of_zero_le p0
  simp only at hp p1
  subst hp
  have HV : Hid (evF vs vars state ⟨25,(p : Int),name⟩ us = state.getD p 0):=by
   refine hide ?_
   unfold evF
   rw [if_neg (by simp),if_neg (by simp),if_pos rfl]
   simp only [Int.toNat_natCast]
  have q1:=(uh HF).f1
  obtain ⟨hsa,q3⟩:=(uh HF).cells p (by omega)
  subst hsa
  have hvn:=(uh HF).sn
  have hpI : (p : Int) < (state.length : Int):=by omega
  have b1:=(uh HBX).cell (i:=1) (v:=.int .i64 (p : Int)) rfl
  generalize evF vs vars state ⟨25,(p : Int),name⟩ us = R at *
  generalize state.getD p 0 = r at *
  generalize state.length = sn at *
  clear hev HF HO HBX HEV p0 p1 hul hu
  go_enter Tryz.func112,Tryz.ntmps112
  go_wp2_with fail
  generalize w.alloc (.cells #[.int .i64 25,.int .i64 (p : Int),.string name] 160) = wA at *
  go_quiet ((fail))
  go_wp2
  go_ret
  exact ⟨ret_i32x (uh HV).symm,below_dN (uh HA) _⟩
 have hop : 4 ≤ op ∧ op ≤ 20:=by have:=hev.op; simp only at this; omega
 have HV : Hid (evF vs vars state ⟨op,val,name⟩ us = apI op us):=by
  refine hide ?_
  unfold evF
  rw [if_neg h12,if_neg h3,if_neg h25]
 generalize evF vs vars state ⟨op,val,name⟩ us = R at *
 clear hev HEV HF
 by_cases h45 : op = 4 ∨ op = 5
 ·have hl : us.length = 1:=by rw [hul]; rcases h45 with rfl | rfl <;> rfl
  match us,hl with
  | [a],_ =>
   obtain ⟨b,o,rfl,k0⟩:=uh HO 0 (by simp)
   simp only [List.getElem_cons_zero,Nat.add_zero] at k0
   have HC:=hide (oneResult_ok op a)
   have HV2 : Hid (R = oneI op a):=uh HV
   have bx:=(uh HBX).cell (i:=0) (v:=.int .i64 op) rfl
   clear HO HBX HV hul hop
   generalize oneI op a = r at *
   rcases h45 with rfl | rfl
   all_goals
    go_enter Tryz.func112,Tryz.ntmps112
    go_wp2_with fail
    generalize w.alloc _ = wA at *
    have HCA:=hide (uh HC wA.drew)
    clear HC
    first
     | go_region_held3 (fun w' => w'.cell? ⟨w.heap.size,0,none⟩ = some (.int .i64 4) ∧ w'.cell? ⟨b,o,none⟩ = some (.int .i32 a)) (go_keep) (first | (go_at_call 131; refine (uh HCA).mono ?_; rintro e w1 ⟨rfl,rfl⟩))
     | go_region_held3 (fun w' => w'.cell? ⟨w.heap.size,0,none⟩ = some (.int .i64 5) ∧ w'.cell? ⟨b,o,none⟩ = some (.int .i32 a)) (go_keep) (first | (go_at_call 131; refine (uh HCA).mono ?_; rintro e w1 ⟨rfl,rfl⟩))
    go_wp2
    go_ret
    exact ⟨ret_i32x (uh HV2).symm,(uh HA).drew⟩
 by_cases h20 : op = 20
 ·subst h20
  have hl : us.length = 3:=by rw [hul]; rfl
  match us,hl with
  | [a,b,d],_ =>
   obtain ⟨bb,o,rfl,k0⟩:=uh HO 0 (by simp)
   obtain ⟨_,_,e1,k1⟩:=uh HO 1 (by simp)
   obtain ⟨_,_,e2,k2⟩:=uh HO 2 (by simp)
   simp only [Option.some.injEq,Addr.mk.injEq,and_true] at e1 e2
   obtain ⟨rfl,rfl⟩:=e1
   obtain ⟨rfl,rfl⟩:=e2
   simp only [List.getElem_cons_zero,List.getElem_cons_succ,Nat.add_zero] at k0 k1 k2
   have HV2 : Hid (R = if a ≠ 0 then b else d):=uh HV
   have bx:=(uh HBX).cell (i:=0) (v:=.int .i64 20) rfl
   clear HO HBX HV hul hop hu
   by_cases ha : a = 0
   ·have HV3 : Hid (R = d):=(uh HV2).trans (if_neg (by simpa using ha))
    subst ha
    clear HV2
    go_enter Tryz.func112,Tryz.ntmps112
    go_wp2
    go_ret
    exact ⟨ret_i32x (uh HV3).symm,uh HA⟩
   ·have HV3 : Hid (R = b):=(uh HV2).trans (if_pos ha)
    have hb : (a == 0) = false:=by rw [beq_eq_false_iff_ne]; exact ha
    clear HV2
    go_enter Tryz.func112,Tryz.ntmps112
    go_wp2
    go_ret
    exact ⟨ret_i32x (uh HV3).symm,uh HA⟩
 have hop2 : 6 ≤ op ∧ op ≤ 19:=by omega
 have hl : us.length = 2:=by
  rw [hul]
  unfold arF ocI
  rw [if_neg (by omega),if_neg (by omega),if_neg h20]
  rfl
 match us,hl with
 | [a,b],_ =>
  obtain ⟨bb,o,rfl,k0⟩:=uh HO 0 (by simp)
  obtain ⟨_,_,e1,k1⟩:=uh HO 1 (by simp)
  simp only [Option.some.injEq,Addr.mk.injEq,and_true] at e1
  obtain ⟨rfl,rfl⟩:=e1
  simp only [List.getElem_cons_zero,List.getElem_cons_succ,Nat.add_zero] at k0 k1
  have HC:=hide (fun w' => twoResult_ok op a b w' hop2 (hu a (by simp)))
  have HV2 : Hid (R = twoI op a b):=uh HV
  have bx:=(uh HBX).cell (i:=0) (v:=.int .i64 op) rfl
  have c1 : (op == 1) = false:=by rw [beq_eq_false_iff_ne]; omega
  have c2 : (op == 2) = false:=by rw [beq_eq_false_iff_ne]; omega
  have c3 : (op == 3) = false:=by rw [beq_eq_false_iff_ne]; omega
  have c4 : (op == 4) = false:=by rw [beq_eq_false_iff_ne]; omega
  have c5 : (op == 5) = false:=by rw [beq_eq_false_iff_ne]; omega
  have c20 : (op == 20) = false:=by rw [beq_eq_false_iff_ne]; omega
  have c25 : (op == 25) = false:=by rw [beq_eq_false_iff_ne]; omega
  clear HO HBX HV hul hop hu hop2 h12 h3 h25 h45 h20 hl
  generalize twoI op a b = r at *
  go_enter Tryz.func112,Tryz.ntmps112
  go_wp2_with fail
  generalize w.alloc _ = wA at *
  have HCA:=hide (uh HC wA.drew)
  clear HC
  go_region_held3 (fun w' => w'.cell? ⟨w.heap.size,0,none⟩ = some (.int .i64 op) ∧ w'.cell? ⟨bb,o,none⟩ = some (.int .i32 a) ∧ w'.cell? ⟨bb,o + 1,none⟩ = some (.int .i32 b)) (go_keep) (first | (go_at_call 132; refine (uh HCA).mono ?_; rintro e w1 ⟨rfl,nn,rfl⟩))
  go_wp2
  go_ret
  exact ⟨ret_i32x (uh HV2).symm,below_dN (uh HA) _⟩
theorem getD_set (L : List Int) (i j : Nat) (v : Int) (hi : i < L.length) : (L.set i v).getD j 0 = if j = i then v else L.getD j 0:=by
 rw [List.getD_eq_getElem?_getD,List.getElem?_set]
 by_cases e : j = i
 ·subst e
  rw [if_pos rfl,if_pos rfl,if_pos hi,Option.getD_some]
 ·rw [if_neg (fun h => e h.symm),if_neg e,List.getD_eq_getElem?_getD]
theorem row_set {w : World} {b : Nat} {xs : List Int} (h : BlkAt w b 21 (xs.map (Value.int .i32)).toArray) (p : Nat) (x : Int) : BlkAt (w.setCell ⟨b,p,none⟩ (.int .i32 x)) b 21 ((xs.set p x).map (Value.int .i32)).toArray:=by
 have h9:=h.set p (.int .i32 x)
 rw [List.map_set,← List.setIfInBounds_toArray]
 exact h9
def setL : List Int → Nat → List Int → List Int
 | L,_,[] => L
 | L,o,x :: r => setL (L.set o x) (o + 1) r
theorem setL_len : ∀ (xs L : List Int) (o : Nat),(setL L o xs).length = L.length
 | [],_,_ => rfl
 | x :: r,L,o => by rw [setL,setL_len r,List.length_set]
theorem setL_get : ∀ (xs L : List Int) (o p : Nat),o + xs.length ≤ L.length → (setL L o xs).getD p 0 = if o ≤ p ∧ p < o + xs.length then xs.getD (p - o) 0 else L.getD p 0
 | [],L,o,p,h => by
  rw [setL,if_neg (by simp)]
 | x :: r,L,o,p,h => by
  rw [List.length_cons] at h
  rw [setL,setL_get r (L.set o x) (o + 1) p (by rw [List.length_set]; omega),getD_set L o p x (by omega),List.length_cons]
  by_cases e : p = o
  ·subst e
   rw [if_neg (by omega),if_pos rfl,if_pos (by omega),Nat.sub_self]
   rfl
  ·by_cases h1 : o + 1 ≤ p ∧ p < o + 1 + r.length
   ·rw [if_pos h1,if_pos (by omega)]
    obtain ⟨d,hd⟩ : ∃ d,p - o = d + 1:=⟨p - o - 1,by omega⟩
    rw [hd,show p - (o + 1) = d from by omega]
    rfl
   ·rw [if_neg h1,if_neg e,if_neg (by omega)]
theorem But.then0 {S T : List Nat} {a b c : World} (h : But S a b) (k : But T b c) (hT : ∀ x,x ∈ T → x ∈ S ∨ a.heap.size ≤ x) : But S a c :=
 ⟨k.os.trans h.os,k.tape.trans h.tape,k.output.trans h.output,Nat.le_trans h.size k.size,fun i hi hs => (k.block i (Nat.lt_of_lt_of_le hi h.size) (fun e => by
  rcases hT i e with h9 | h9
  ·exact hs h9
  ·omega)).trans (h.block i hi hs)⟩
theorem row_sets (b : Nat) : ∀ (xs : List Int) (w : World) (L : List Int) (o : Nat),BlkAt w b 21 (L.map (Value.int .i32)).toArray → BlkAt (w.setCells b o (xs.map (Value.int .i32))) b 21 ((setL L o xs).map (Value.int .i32)).toArray ∧ But [b] w (w.setCells b o (xs.map (Value.int .i32)))
 | [],w,L,o,h => ⟨h,But.refl _ _⟩
 | x :: r,w,L,o,h => by
  obtain ⟨h1,h2⟩:=row_sets b r _ _ (o + 1) (row_set h o x)
  exact ⟨h1,(But.setCell _ (p:=⟨b,o,none⟩) (List.mem_singleton.2 rfl) _).then0 h2 (fun x hx => Or.inl hx)⟩
theorem size_i32 (w : World) : (sizeOf (Tryz.prog.elem 55)).run Tryz.prog w = .ok 1 w:=by kernel_rfl
theorem cut32_lh (sa : Option Addr) (n sc o h : Nat) (h1 : o ≤ h) (h2 : h ≤ sc) (w : World) : (Instr.slice 55 (.slice sa n sc) (some (.int .i64 (o : Int))) (some (.int .i64 (h : Int))) none).run Tryz.prog w = .ok (.slice (if sc = o then sa else sa.map (·.add (o * 1))) (h - o) (sc - o)) w:=by
 rw [run_slice_lh w 55 sa n sc (by kernel_rfl) .i64 .i64 (o : Int) (h : Int) (by omega) (by omega) (by omega)]
 rw [Int.toNat_natCast,Int.toNat_natCast]
 rw [size_i32]
 rfl
theorem cut32_l (sa : Option Addr) (n sc o : Nat) (h1 : o ≤ n) (w : World) : (Instr.slice 55 (.slice sa n sc) (some (.int .i64 (o : Int))) none none).run Tryz.prog w = .ok (.slice (if sc = o then sa else sa.map (·.add (o * 1))) (n - o) (sc - o)) w:=by
 rw [run_slice_l w 55 sa n sc (by kernel_rfl) .i64 (o : Int) (by omega) (by omega)]
 rw [Int.toNat_natCast]
 rw [size_i32]
 rfl
theorem cut32_hm (sa : Option Addr) (n sc h m : Nat) (h1 : h ≤ m) (h2 : m ≤ sc) (w : World) : (Instr.slice 55 (.slice sa n sc) none (some (.int .i64 (h : Int))) (some (.int .i64 (m : Int)))).run Tryz.prog w = .ok (.slice (if m = 0 then sa else sa.map (·.add (0 * 1))) (h - 0) (m - 0)) w:=by
 rw [run_slice_hm w 55 sa n sc (by kernel_rfl) .i64 .i64 (h : Int) (m : Int) (by omega) (by omega) (by omega)]
 rw [Int.toNat_natCast,Int.toNat_natCast]
 rw [size_i32]
 rfl
theorem cut32_lhm (sa : Option Addr) (n sc o h m : Nat) (h0 : o ≤ h) (h1 : h ≤ m) (h2 : m ≤ sc) (w : World) : (Instr.slice 55 (.slice sa n sc) (some (.int .i64 (o : Int))) (some (.int .i64 (h : Int))) (some (.int .i64 (m : Int)))).run Tryz.prog w = .ok (.slice (if m = o then sa else sa.map (·.add (o * 1))) (h - o) (m - o)) w:=by
 rw [run_slice_lhm w 55 sa n sc (by kernel_rfl) .i64 .i64 .i64 (o : Int) (h : Int) (m : Int) (by omega) (by omega) (by omega) (by omega)]
 rw [Int.toNat_natCast,Int.toNat_natCast,Int.toNat_natCast]
 rw [size_i32]
 rfl
def FmPost (w : World) (pb B po n rest : Nat) (sv : Value) (L : List Int) (e : Ending) (w' : World) : Prop :=
 ∃ fb pa3,e = .returned (.pointer (some ⟨fb,0,none⟩)) ∧ (w.heap.size ≤ fb ∧ BlkAt w' fb 105 #[.pointer (some ⟨pb,0,none⟩),sv,.slice (some ⟨B,po,none⟩) n n,.slice pa3 (rest - n) (rest - n),.slice none 0 0]) ∧ (0 < rest - n → pa3 = some ⟨B,po + n,none⟩) ∧ BlkAt w' B 21 ((setL L po (List.replicate n 0)).map (Value.int .i32)).toArray ∧ But [B] w w'
set_option maxRecDepth 20000 in
set_option maxHeartbeats 4000000 in
theorem frame_ok (W w : World) (pb mb n : Nat) (f : ByteArray → Option Value) (hold : Below W.heap.size W w) (p1 : W.cell? ⟨pb,1,none⟩ = some (.map (some mb))) (hmap : MapN W mb n f) (B po rest : Nat) (L : List Int) (hrow : BlkAt w B 21 (L.map (Value.int .i32)).toArray) (hn0 : 0 < n) (hnr : n ≤ rest) (hl : po + rest ≤ L.length) (hL : L.length ≤ 1000000) (sA : Option Addr) (sL sC : Nat) :
  Calls Tryz.prog 62 #[.pointer (some ⟨pb,0,none⟩),.slice sA sL sC,.slice (some ⟨B,po,none⟩) rest rest] w (FmPost w pb B po n rest (.slice sA sL sC) L):=by
 have q1:=(hold.cell (World.block_lt_of_cell? W _ p1)).trans p1
 have hm:=hmap.below hold hmap.lt
 have hln : ∀ ty,(Builtin.len_ #[53] ty #[.map (some mb)]).run Tryz.prog w = .ok (.int .i64 (n : Int)) w:=fun ty => hm.len Tryz.underlying53 ty
 have hc1 : ∀ w',(Instr.slice 55 (.slice (some ⟨B,po,none⟩) rest rest) none (some (.int .i64 (n : Int))) (some (.int .i64 (n : Int)))).run Tryz.prog w' = .ok (.slice (some ⟨B,po,none⟩) n n) w':=fun w' => by
  rw [cut32_hm _ rest rest n n (Nat.le_refl _) hnr w',if_neg (by omega),Option.map_some,Addr.add_lit,Nat.zero_mul,Nat.add_zero,Nat.sub_zero]
 obtain ⟨pa3,hpa3⟩ : ∃ pa3,pa3 = if rest = n then (some ⟨B,po,none⟩ : Option Addr) else some ⟨B,po + n,none⟩:=⟨_,rfl⟩
 have hc2 : ∀ w',(Instr.slice 55 (.slice (some ⟨B,po,none⟩) rest rest) (some (.int .i64 (n : Int))) none none).run Tryz.prog w' = .ok (.slice pa3 (rest - n) (rest - n)) w':=fun w' => by
  rw [cut32_l _ rest rest n hnr w',hpa3,Option.map_some,Addr.add_lit,Nat.mul_one]
 have HPA : Hid (0 < rest - n → pa3 = some ⟨B,po + n,none⟩):=fun h => by rw [hpa3,if_neg (by omega)]
 have HROW:=hide hrow
 have HN:=hide hn0
 have HL1:=hide hl
 have HNR:=hide hnr
 generalize hrn : rest - n = rn at *
 clear hpa3 hold hmap hm p1 hrow hn0 hnr hl hL
 obtain ⟨wD,hwD⟩ : ∃ wD,wD = (w.alloc (.cells #[.pointer (some ⟨pb,0,none⟩),.slice sA sL sC,.slice (some ⟨B,po,none⟩) n n,.slice pa3 rn rn,.slice none 0 0] 105)).drew:=⟨_,rfl⟩
 have HBW : Hid (Below w.heap.size w wD):=by
  rw [hwD]
  exact ((Below.refl _ _).alloc (Nat.le_refl _) _).drew
 have HFR : Hid (BlkAt wD w.heap.size 105 #[.pointer (some ⟨pb,0,none⟩),.slice sA sL sC,.slice (some ⟨B,po,none⟩) n n,.slice pa3 rn rn,.slice none 0 0]):=by
  rw [hwD]
  exact blk_box w _ _
 have HRW:=hide ((uh HROW).below (uh HBW) (uh HROW).lt)
 have hclr : ∀ ty,(Builtin.clear_ #[55] ty #[.slice (some ⟨B,po,none⟩) n n]).run Tryz.prog wD = .ok (.tuple #[]) (wD.setCells B po ((List.replicate n 0).map (Value.int .i32))):=fun ty => by
  rw [List.map_replicate]
  have h1:=uh HL1
  have h2:=uh HNR
  refine Lib.run_clear_slice wD 55 21 ty (.int .i32 0) Tryz.underlying55 (fun w => by kernel_rfl) rfl rfl B po n n (uh HN) (fun j hj => ?_) (fun j hj => (uh HRW).free _)
  have h3:=(uh HRW).cell (i:=po + j) (v:=.int .i32 (L.getD (po + j) 0)) (by
   rw [List.getD_eq_getElem?_getD,List.getElem?_eq_getElem (by omega)]
   simp [show po + j < L.length by omega])
  rw [h3]
  rfl
 obtain ⟨r1,r2⟩:=row_sets B (List.replicate n 0) wD L po (uh HRW)
 generalize wD.setCells B po ((List.replicate n 0).map (Value.int .i32)) = wE at *
 have HNE : Hid (w.heap.size ≠ B):=by
  have:=(uh HROW).lt
  refine hide ?_
  omega
 have HPO : Hid (FmPost w pb B po n rest (.slice sA sL sC) L (.returned (.pointer (some ⟨w.heap.size,0,none⟩))) wE):=by
  rw [← hrn] at *
  exact hide ⟨w.heap.size,pa3,rfl,⟨Nat.le_refl _,r2.blk (uh HFR) (by rw [List.mem_singleton]; exact uh HNE)⟩,uh HPA,r1,(But.of_below (uh HBW)).then0 r2 (fun x hx => Or.inl hx)⟩
 have f2:=(uh HFR).cell (i:=2) (v:=.slice (some ⟨B,po,none⟩) n n) rfl
 clear r1 r2 HPA HNE HFR HRW HBW HROW HN HL1 HNR hrn
 go_enter Tryz.func62,Tryz.ntmps62
 go_wp2_with fail
 go_region_held3 (fun w' => w'.cell? ⟨pb,1,none⟩ = some (.map (some mb))) (go_keep) (fail)
 rw [← hwD]
 clear hwD
 go_wp2
 go_ret
 exact uh HPO
set_option maxRecDepth 20000 in
set_option maxHeartbeats 4000000 in
theorem outs_ok (w : World) (fb pb b0 oo B vo n ni no : Nat) (a1 a2 : Option Addr) (n1 n2 : Nat) (f0 : w.cell? ⟨fb,0,none⟩ = some (.pointer (some ⟨pb,0,none⟩))) (f2 : w.cell? ⟨fb,2,none⟩ = some (.slice (some ⟨B,vo,none⟩) n n)) (c0 : w.cell? ⟨pb,0,none⟩ = some (.pointer (some ⟨b0,oo,none⟩))) (d1 : w.cell? ⟨b0,oo + 1,none⟩ = some (.slice a1 ni n1)) (d2 : w.cell? ⟨b0,oo + 2,none⟩ = some (.slice a2 no n2)) (hnn : ni + no ≤ n) (h0 : ni < n) (hn : n ≤ 1000000) :
  Calls Tryz.prog 65 #[.pointer (some ⟨fb,0,none⟩)] w (Ans (.slice (some ⟨B,vo + ni,none⟩) no (n - ni)) w):=by
 have hw : IntKind.i64.wrap ((ni : Int) + (no : Int)) = ((ni + no : Nat) : Int):=by
  rw [IntKind.wrap_i64]
  omega
 have hc1 : ∀ w',(Instr.slice 55 (.slice (some ⟨B,vo,none⟩) n n) (some (.int .i64 (ni : Int))) (some (.int .i64 ((ni + no : Nat) : Int))) none).run Tryz.prog w' = .ok (.slice (some ⟨B,vo + ni,none⟩) no (n - ni)) w':=fun w' => by
  rw [cut32_lh _ n n ni (ni + no) (by omega) hnn w',if_neg (by omega),Option.map_some,Addr.add_lit,Nat.mul_one,show ni + no - ni = no by omega]
 generalize ((ni + no : Nat) : Int) = s at *
 generalize n - ni = m at *
 clear hnn h0 hn
 go_enter Tryz.func65,Tryz.ntmps65
 go_wp2_with fail
 go_quiet ((fail))
 go_wp2
 go_ret
 exact ⟨rfl,below_dn _ _⟩
end Go.Proofs.YtjjldnkhadakcaaGreat
