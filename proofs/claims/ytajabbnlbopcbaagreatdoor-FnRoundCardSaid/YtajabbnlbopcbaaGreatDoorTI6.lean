import Derived.Test.YtajabbnlbopcbaaGreatDoorTI3
import Derived.Deep.RegionHeld3
import Derived.Test.YtajabbnlbopcbaaGreatDoorImpl
namespace Go.Proofs.YtajabbnlbopcbaaGreatDoor
open Go.RowKit
set_option linter.unusedSimpArgs false
set_option linter.unusedVariables false
theorem typeTextT_ok (t : Int) (w : World) : Calls Tryz.prog 61 #[.int .i64 t] w fun e w' => e = .returned (.string (if t = 2 then ⟨#[98,111,111,108]⟩ else ⟨#[105,110,116]⟩)) ∧ w' = w:=by
 by_cases h : t = 2
 ·subst h
  go_enter Tryz.func61,Tryz.ntmps61
  go_wp2
  go_ret
  exact ⟨rfl,rfl⟩
 ·rw [if_neg h]
  have b2 : (t == 2) = false:=by rw [beq_eq_false_iff_ne]; exact h
  go_enter Tryz.func61,Tryz.ntmps61
  go_wp2
  go_ret
  exact ⟨rfl,rfl⟩
set_option maxHeartbeats 1000000 in
theorem declText_ok (x : DVar) (cl : Value) (w : World) (hn : x.name.size ≤ 40) (hcl : SlAt 2 24 RCond 0 w cl x.clock) (hvb : varB x = true) :
  Calls Tryz.prog 40 #[.agg #[.string x.name,.int .i64 x.type,cl]] w (Ans (.string (dlT x)) w):=by
 have HZ:=hide (dlTo_size x hvb)
 have HCN : Hid (∀ c,c ∈ x.clock → c.name.size ≤ 40):=fun c hc => name_size _ (List.all_eq_true.1 ((var_iff x).1 hvb).2.2.2 c hc)
 have h8:=((var_iff x).1 hvb).2.2.1
 have HVB:=hide hvb
 clear hvb
 obtain ⟨a,cap,rfl,_,hln,hx⟩:=hcl
 unfold Len at hln
 have HX:=hide hx
 clear hx
 have HD0:=hide (dlTo_zero x)
 have HDL : Hid (dlT x = dlTo x x.clock.length):=rfl
 have HDS:=hide (dlTo_succ x)
 generalize dlT x = dl at *
 generalize dlTo x = dt at *
 obtain ⟨nm,ty,clk⟩:=x
 simp only at *
 have HTY:=typeTextT_ok ty
 have HD1 : Hid (dt 0 = nm ++ ⟨#[58,32]⟩ ++ (if ty = 2 then ⟨#[98,111,111,108]⟩ else ⟨#[105,110,116]⟩)):=by
  refine hide ?_
  rw [uh HD0,ba_assoc]
  congr 1
  by_cases h : ty = 2
  ·rw [if_pos h,if_pos h]
   decide
  ·rw [if_neg h,if_neg h]
   decide
 obtain ⟨tt,htt⟩ : ∃ tt : ByteArray,tt = (if ty = 2 then ⟨#[98,111,111,108]⟩ else ⟨#[105,110,116]⟩):=⟨_,rfl⟩
 have htz : tt.size ≤ 4:=by rw [htt]; split <;> decide
 rw [← htt] at HTY HD1
 have HTY:=hide HTY
 clear htt HD0
 have P0:=hide (((Below.refl w.heap.size w).alloc (Nat.le_refl _) (.cells #[.string nm,.int .i64 ty,.slice a clk.length cap] 67)).drew)
 have k0 : (w.alloc (.cells #[.string nm,.int .i64 ty,.slice a clk.length cap] 67)).drew.cell? ⟨w.heap.size,0,none⟩ = some (.string nm):=by
  show (w.alloc (.cells #[.string nm,.int .i64 ty,.slice a clk.length cap] 67)).cell? _ = _
  rw [World.cell?_alloc_at _ _ _ _ rfl]
  rfl
 have k1 : (w.alloc (.cells #[.string nm,.int .i64 ty,.slice a clk.length cap] 67)).drew.cell? ⟨w.heap.size,1,none⟩ = some (.int .i64 ty):=by
  show (w.alloc (.cells #[.string nm,.int .i64 ty,.slice a clk.length cap] 67)).cell? _ = _
  rw [World.cell?_alloc_at _ _ _ _ rfl]
  rfl
 have k2 : (w.alloc (.cells #[.string nm,.int .i64 ty,.slice a clk.length cap] 67)).drew.cell? ⟨w.heap.size,2,none⟩ = some (.slice a clk.length cap):=by
  show (w.alloc (.cells #[.string nm,.int .i64 ty,.slice a clk.length cap] 67)).cell? _ = _
  rw [World.cell?_alloc_at _ _ _ _ rfl]
  rfl
 have q1 : ¬ (9223372036854775807 < nm.size + 2):=by omega
 have q2 : ¬ (9223372036854775807 < nm.size + 2 + tt.size):=by omega
 go_enter Tryz.func40,Tryz.ntmps40
 go_wp2_with fail
 go_region_held3 (fun w' => w'.cell? ⟨w.heap.size,0,none⟩ = some (.string nm) ∧ w'.cell? ⟨w.heap.size,1,none⟩ = some (.int .i64 ty) ∧ w'.cell? ⟨w.heap.size,2,none⟩ = some (.slice a clk.length cap)) (go_keep) (first | (go_at_call 61; refine (uh HTY _).mono ?_; rintro e wj ⟨rfl,rfl⟩))
 all_goals
  go_wp2
  go_loopg [3,16] clk.length (fun g out i wr => ∃ (k : Nat),k ≤ clk.length ∧ g = clk.length - k ∧ i = .int .i64 k ∧ out = .string (dt k) ∧ Below w.heap.size w wr)
  case atStart => exact ⟨0,Nat.zero_le _,by omega,rfl,by rw [uh HD1],uh P0⟩
  case round =>
   obtain ⟨k,hk,hg,rfl,rfl,hbl⟩:=hrel
   rename World => wN
   have HG:=hide hg
   clear hg
   have hz:=uh HZ k hk
   by_cases hlt : k < clk.length
   ·obtain ⟨b,o,cs,rfl,_,hb,hcs,hc0,hR⟩:=uh HX k hlt
    have hc : ∀ j (hj : j < cs.length),wN.cell? ⟨b,o + k * 2 + j,none⟩ = some cs[j]:=fun j hj => by rw [hbl.cell (p:=⟨b,_,none⟩) hb]; exact hc0 j hj
    obtain ⟨rfl,hsn⟩:=hR
    have c0:=hc 0 (by simp)
    have c1:=hc 1 (by simp)
    simp only [Nat.mul_one,Nat.add_zero,List.getElem_cons_zero,List.getElem_cons_succ] at c0 c1
    have hz2:=uh HCN clk[k] (List.getElem_mem hlt)
    have HT:=hide (uh HDS k hlt)
    have hz3:=cnT_size clk[k].on clk[k].name hz2
    have HC:=hide (condText_ok clk[k].name clk[k].on (wN.alloc (.cells #[.string clk[k].name,.bool clk[k].on] 86)) hz2)
    have P1 : Hid (Below w.heap.size w (wN.alloc (.cells #[.string clk[k].name,.bool clk[k].on] 86))):=hbl.alloc hbl.size _
    clear hc hc0 hcs hsn
    generalize dt k = dk at *
    generalize clk[k] = c at *
    obtain ⟨cn,co⟩:=c
    simp only at *
    generalize cnT co cn = ct at *
    go_wp2_with fail
    refine (uh HC).mono ?_
    rintro e w1 ⟨rfl,hb1⟩
    have HB1 : Hid (Below w.heap.size w w1):=(uh P1).trans (hb1.mono (uh P1).size)
    clear hb1
    go_wp2
    go_roundg (clk.length - (k + 1))
    case measure => have:=uh HG; omega
    case rel => exact ⟨k + 1,by omega,rfl,by go_num,by rw [uh HT],uh HB1⟩
   ·have e : k = clk.length:=by omega
    subst e
    generalize dt clk.length = dk at *
    go_wp2
    go_ret
    exact ⟨ret_str (uh HDL).symm,hbl⟩
theorem uStrs : Tryz.prog.underlying 54 = some (.slice 9):=by kernel_rfl
theorem iStr : (Tryz.prog.info? 9).map (fun i => (i.zero,i.size,i.bytes)) = some (some (.string ⟨#[]⟩),1,16):=by kernel_rfl
theorem strJoin_ok (xs : List ByteArray) (sep : ByteArray) (a : Option Addr) (c : Nat) (w : World) (ha : ∀ i,(h : i < xs.length) → ∃ bk o,a = some ⟨bk,o,none⟩ ∧ bk < w.heap.size ∧ w.cell? ⟨bk,o + i,none⟩ = some (.string xs[i])) (hc : xs.length ≤ c)
  (hs : sep.size ≤ 10) (hxs : ∀ x,x ∈ xs → x.size ≤ 1000000) (hl : xs.length ≤ 1000) :
  Calls Tryz.prog 41 #[.slice a xs.length c,.string sep] w (Ans (.string (jnT sep xs)) w):=by
 have hz:=jn_small sep xs hs hxs hl xs.length
 rw [List.take_length] at hz
 match xs,ha,hc,hz,hl with
 | [],_,_,_,_ =>
  refine (Tryz.strings_Join_none a c sep w).mono ?_
  rintro e w' ⟨rfl,rfl⟩
  exact ⟨rfl,Below.refl _ _⟩
 | x :: xs,ha,hc,hz,hl =>
  obtain ⟨bk,o,rfl,hb,_⟩:=ha 0 (by simp)
  refine (Tryz.strings_Join bk o c (x :: xs) sep w (fun j y hy => ?_) hb (by omega) hc ?_).mono ?_
  ·obtain ⟨hj,rfl⟩:=List.getElem?_eq_some_iff.1 hy
   obtain ⟨bk',o',he,_,hcell⟩:=ha j hj
   cases he
   exact hcell
  ·have : (jnT sep (x :: xs)).size = (Lib.join ((x :: xs).map (·.data.toList)) sep.data.toList).length:=by simp [jnT,ByteArray.size]
   omega
  ·rintro e w' ⟨rfl,h⟩
   exact ⟨rfl,h⟩
set_option maxHeartbeats 2000000 in
theorem declsText_ok (xs : List DVar) (v : Value) (w : World) (hv : SlAt 3 48 RVar 0 w v xs) (hvb : ∀ x,x ∈ xs → varB x = true) (hl : xs.length ≤ 500) :
  Calls Tryz.prog 26 #[v] w (Ans (.string (jnT Lsemi (xs.map dlT))) w):=by
 obtain ⟨a,cap0,rfl,_,hn,hx⟩:=hv
 unfold Len at hn
 have HX:=hide hx
 have HVB:=hide hvb
 clear hx hvb
 go_enter Tryz.func26,Tryz.ntmps26
 go_wp2_with (at_make; go_must (refine wpList_make_row w rfl _ _ 54 rfl 9 _ _ uStrs iStr (by decide) _ xs.length rfl rfl rfl (by omega) ?_))
 intro wA cs0 hrow0 hsz0 hbA
 have HR0:=hide hrow0
 have HS0:=hide hsz0
 have HBA:=hide hbA
 have hsA:=hbA.size
 clear hrow0 hsz0 hbA
 go_wp2
 go_loopg [11] xs.length (fun gh i wr => ∃ (k : Nat),k ≤ xs.length ∧ gh = xs.length - k ∧ i = .int .i64 k ∧ Below w.heap.size w wr ∧
  ∃ cs,BlkAt wr w.heap.size 9 cs ∧ cs.size = xs.length ∧ ∀ i,i < k → (hi : i < xs.length) → cs[i]? = some (.string (dlT xs[i])))
 case atStart => exact ⟨0,Nat.zero_le _,by omega,rfl,uh HBA,cs0,uh HR0,uh HS0,fun i hi => absurd hi (Nat.not_lt_zero _)⟩
 case round =>
  obtain ⟨k,hk,hg,rfl,hbl,cs1,hrow,hsz,hcs1⟩:=hrel
  rename World => wN
  have HG:=hide hg
  have HROW:=hide hrow
  have HSZ:=hide hsz
  have HC1:=hide hcs1
  have HBN:=hide hbl
  have hgl:=hrow.lt
  clear hg hrow hsz hcs1
  by_cases hlt : k < xs.length
  ·obtain ⟨b,o,cs,hbo,_,hb,hcs,hc0,hR⟩:=uh HX k hlt
   subst hbo
   have hc : ∀ j (hj : j < cs.length),wN.cell? ⟨b,o + k * 3 + j,none⟩ = some cs[j]:=fun j hj => by rw [hbl.cell (p:=⟨b,_,none⟩) hb]; exact hc0 j hj
   have HR:=hide hR
   obtain ⟨cl,rfl,hsn,hty,hcl⟩:=hR
   have c0:=hc 0 (by simp)
   have c1:=hc 1 (by simp)
   have c2:=hc 2 (by simp)
   simp only [Nat.mul_one,Nat.add_zero,List.getElem_cons_zero,List.getElem_cons_succ] at c0 c1 c2
   have hxb:=uh HVB xs[k] (List.getElem_mem hlt)
   have P1 : Hid (Below wN.heap.size wN (wN.alloc (.cells #[.string xs[k].name,.int .i64 xs[k].type,cl] 67))):=(Below.refl _ _).alloc (Nat.le_refl _) _
   have HC:=hide (declText_ok xs[k] cl (wN.alloc (.cells #[.string xs[k].name,.int .i64 xs[k].type,cl] 67)) (name_size _ ((var_iff xs[k]).1 hxb).1) ((hcl.stays RCond_kept hbl).stays RCond_kept (uh P1)) hxb)
   obtain ⟨acl,ccl,rfl⟩:=hcl.shape
   have hks : k < cs1.size:=by rw [uh HSZ]; exact hlt
   have HZ : Hid (∀ i,i < k + 1 → (hi : i < xs.length) → (cs1.setIfInBounds k (.string (dlT xs[k])))[i]? = some (.string (dlT xs[i]))):=by
    show ∀ i,i < k + 1 → (hi : i < xs.length) → (cs1.setIfInBounds k (.string (dlT xs[k])))[i]? = some (.string (dlT xs[i]))
    intro i hi hi2
    by_cases hik : i = k
    ·subst hik
     simp [hks]
    ·rw [Array.getElem?_setIfInBounds_ne (by omega)]
     exact uh HC1 i (by omega) hi2
   clear hc hc0 hcs hty hxb HR hcl
   generalize dlT xs[k] = dl at *
   generalize xs[k].clock.length = ncl at *
   generalize xs[k].name = nm at *
   generalize xs[k].type = ty at *
   go_wp2_with fail
   refine (uh HC).mono ?_
   rintro e w1 ⟨rfl,hb1⟩
   have HQ1 : Hid (Below wN.heap.size wN w1):=(uh P1).trans (hb1.mono (uh P1).size)
   have HR1:=hide ((uh HROW).below (uh HQ1) hgl)
   have ck:=(uh HR1).cell (i:=k) (v:=cs1[k]) (by simp [hks])
   have fk:=(uh HR1).free k
   clear hb1
   generalize cs1[k] = old at *
   go_wp2
   go_roundg (xs.length - (k + 1))
   case measure => have:=uh HG; omega
   case rel => exact ⟨k + 1,by omega,rfl,by go_num,(hbl.trans ((uh HQ1).mono hbl.size)).setCell (Nat.le_refl _) _,_,(uh HR1).set k _,by simp [uh HSZ],uh HZ⟩
  ·have e : k = xs.length:=by omega
   subst e
   have HC:=hide (strJoin_ok (xs.map dlT) Lsemi (some ⟨w.heap.size,0,none⟩) xs.length wN (fun i hi => ⟨w.heap.size,0,rfl,hgl,by
     have hi' : i < xs.length:=by simpa using hi
     rw [Nat.zero_add,(uh HROW).cell (uh HC1 i hi' hi')]
     simp⟩) (by simp) (by decide) (fun x hx => by
     obtain ⟨y,hy,rfl⟩:=List.mem_map.1 hx
     have:=dlT_size y (uh HVB y hy)
     omega) (by rw [List.length_map]; omega))
   rw [List.length_map] at HC
   go_wp2_with fail
   refine (uh HC).mono ?_
   rintro e w1 ⟨rfl,hb1⟩
   go_wp2
   go_ret
   exact ⟨rfl,hbl.trans (hb1.mono hbl.size)⟩
theorem lhsJoin_ok (e : DEq) (v : Value) (w : World) (hS : SlAt 1 16 RStr 0 w v e.lhs) (he : eqB e = true) :
  Calls Tryz.prog 41 #[v,.string ⟨#[44,32]⟩] w (Ans (.string (jnT Lcomma e.lhs)) w):=by
 obtain ⟨a,cap,rfl,⟨_,hcap⟩,hn,hx⟩:=hS
 refine strJoin_ok e.lhs Lcomma a cap w (fun i hi => ?_) hcap (by decide) (fun x hx => ?_) (by have:=((eq_iff e).1 he).1; omega)
 ·obtain ⟨b,o,cs,rfl,_,hb,hcs,hc,hR⟩:=hx i hi
  obtain ⟨rfl,_⟩:=hR
  have:=hc 0 (by simp)
  simp only [Nat.mul_one,Nat.add_zero,List.getElem_cons_zero] at this
  exact ⟨b,o,rfl,hb,this⟩
 ·have:=name_size x (List.all_eq_true.1 ((eq_iff e).1 he).2.1 x hx)
  omega
set_option maxHeartbeats 2000000 in
theorem writeEquation_ok (w0 : World) (b : Nat) (hE : Env w0) (e : DEq) (he : eqB e = true) (l c v : Value) (h1 : SlAt 1 16 RStr 0 w0 l e.lhs) (h2 : SlAt 3 32 RItem 0 w0 c e.code) (h3 : SlAt 1 24 RItems 0 w0 v e.args)
  (w : World) (s : ByteArray) (hst : St w0 b s w) (hsz : s.size ≤ 80000000000000) :
  Calls Tryz.prog 27 #[.pointer (some ⟨b,0,none⟩),.agg #[l,c,.string e.call,v]] w fun r w' => r = .returned (.tuple #[]) ∧ St w0 b (s ++ eqT e) w' ∧ BKeeps b w w':=by
 have P0 : Hid (Below w.heap.size w (w.alloc (.cells #[l,c,.string e.call,v] 58))):=(Below.refl _ _).alloc (Nat.le_refl _) _
 have HBX:=hide (blk_box w #[l,c,.string e.call,v] 58)
 have HST0:=hide (hst.on (uh P0))
 have HC1:=hide (lhsJoin_ok e l _ (h1.stays RStr_kept (uh HST0).old) he)
 have hzl:=lhs_size he
 have hzr:=rhT_size he
 have HRH : Hid (rhT e = if e.call.size = 0 then cdT e.code else e.call ++ (Lop ++ (jnT Lcomma (e.args.map cdT) ++ Lcl))):=rfl
 have HEQ : Hid (s ++ eqT e = s ++ (Lind ++ jnT Lcomma e.lhs ++ Leq) ++ rhT e ++ Lend):=by
  show s ++ eqT e = s ++ (Lind ++ jnT Lcomma e.lhs ++ Leq) ++ rhT e ++ Lend
  unfold eqT
  simp only [ba_assoc]
 have z1 : Lind.size = 2:=rfl
 have z2 : Leq.size = 3:=rfl
 have z3 : Lend.size = 2:=rfl
 have HWA : Hid (∀ w',St w0 b s w' → _):=fun w' h => writeString_ok (Lind ++ jnT Lcomma e.lhs ++ Leq) (w:=w') h (by simp only [ba_size]; omega)
 have HWE : Hid (∀ w' s',St w0 b s' w' → s'.size ≤ 100000000000000 → _):=fun w' s' h h2 => writeString_ok Lend (w:=w') h (by omega)
 have HCO : Hid (e.call.size = 0 → ∀ w' s',St w0 b s' w' → s'.size ≤ 90000000000000 → _):=fun h0 w' s' h h' => writeCode_ok w0 b hE e.code c h2 (eq_code he h0) w' s' h (by omega)
 obtain ⟨la,lc,rfl⟩:=h1.shape
 obtain ⟨ca,cc,rfl⟩:=h2.shape
 obtain ⟨va,vc,rfl⟩:=h3.shape
 have HCA : Hid (¬ e.call.size = 0 → ∀ w' s',St w0 b s' w' → s'.size ≤ 90000000000000 → _):=fun h0 w' s' h h' => writeCall_ok w0 b hE e he h0 la ca e.lhs.length lc e.code.length cc _ h3 w' s' h h'
 have hcl : ¬ e.call.size = 0 → e.call.size ≤ 40:=fun h0 => name_size _ (eq_call he h0).1
 have hS1 : (s ++ (Lind ++ jnT Lcomma e.lhs ++ Leq)).size ≤ 80000000100000:=by simp only [ba_size]; omega
 rw [uh HEQ]
 clear HEQ hst h1 h2 h3 he
 generalize jnT Lcomma e.lhs = jL at *
 generalize e.lhs.length = ln at *
 generalize e.code.length = cn at *
 generalize e.args.length = an at *
 generalize jnT Lcomma (e.args.map cdT) = jA at *
 generalize cdT e.code = cd at *
 generalize rhT e = rh at *
 generalize e.call = call at *
 go_enter Tryz.func27,Tryz.ntmps27
 go_wp2_with fail
 refine (uh HC1).mono ?_
 rintro r w1 ⟨rfl,hb1⟩
 have HB1:=hide hb1
 have HST1:=hide ((uh HST0).on hb1)
 have HBX1:=hide ((uh HBX).below hb1 (by simp))
 have HC2:=hide (uh HWA w1 (uh HST1))
 clear hb1 HC1 HWA
 go_wp2_with fail
 refine (uh HC2).mono ?_
 rintro r w2 ⟨rfl,hst2,hk2⟩
 have HST2:=hide hst2
 have HK2:=hide hk2
 have hbx2:=(uh HBX1).kept (uh HST1) hk2 (by decide)
 have k0:=hbx2.cell (i:=0) rfl
 have k1:=hbx2.cell (i:=1) rfl
 have k2:=hbx2.cell (i:=2) rfl
 have k3:=hbx2.cell (i:=3) rfl
 have HKW : Hid (BKeeps b w w2):=((kept_below (uh P0)).trans (kept_below (uh HB1))).trans hk2
 clear hst2 hk2 HC2 hbx2
 generalize hSQ : s ++ (Lind ++ jL ++ Leq) = S at *
 have HSQ:=hide hSQ
 clear hSQ
 by_cases h0 : call.size = 0
 ·have e4:=empty_yes call h0
  have e4':=isEmpty_yes call h0
  have HC3:=hide (uh HCO h0 w2 S (uh HST2) (by omega))
  rw [if_pos h0] at HRH
  have hrr:=uh HRH
  subst hrr
  clear h0 HCO HCA HRH hcl
  go_wp2_with fail
  refine (uh HC3).mono ?_
  rintro r w3 ⟨rfl,hst3,hk3⟩
  have HK3:=hide hk3
  have HC4:=hide (uh HWE w3 _ hst3 (by simp only [ba_size]; omega))
  clear hst3 hk3 HC3
  go_wp2_with fail
  refine (uh HC4).mono ?_
  rintro r w4 ⟨rfl,hst4,hk4⟩
  go_wp2
  go_end0
  exact ⟨rfl,by rw [uh HSQ]; exact hst4,((uh HKW).trans (uh HK3)).trans hk4⟩
 ·have e4:=empty_no call h0
  have e4':=isEmpty_no call h0
  have HC3:=hide (uh HCA h0 w2 S (uh HST2) (by omega))
  rw [if_neg h0] at HRH
  rw [← uh HRH] at HC3
  have hcz:=hcl h0
  clear h0 HCO HCA hcl HRH
  go_wp2_with fail
  refine (uh HC3).mono ?_
  rintro r w3 ⟨rfl,hst3,hk3⟩
  have HK3:=hide hk3
  have HC4:=hide (uh HWE w3 _ hst3 (by simp only [ba_size]; omega))
  clear hst3 hk3 HC3
  go_wp2_with fail
  refine (uh HC4).mono ?_
  rintro r w4 ⟨rfl,hst4,hk4⟩
  go_wp2
  go_end0
  exact ⟨rfl,by rw [uh HSQ]; exact hst4,((uh HKW).trans (uh HK3)).trans hk4⟩
theorem decls_bx {w0 w : World} {o : Obj} (xs : List DVar) (a : Option Addr) (cp : Nat) (hv : SlAt 3 48 RVar 0 w0 (.slice a xs.length cp) xs) (hvb : ∀ x,x ∈ xs → varB x = true) (hl : xs.length ≤ 500)
  (hout : ∀ w1,Below (w.heap.size + 1) (w.alloc o) w1 → Below w0.heap.size w0 w1) (w' : World) (h : Hid (Below (w.heap.size + 1) (w.alloc o) w')) :
  Calls Tryz.prog 26 #[.slice a xs.length cp] w' fun e w1 => e = .returned (.string (jnT Lsemi (xs.map dlT))) ∧ Hid (Below (w.heap.size + 1) (w.alloc o) w1):=by
 refine (declsText_ok xs _ w' (hv.stays RVar_kept (hout _ (uh h))) hvb hl).mono ?_
 rintro e w1 ⟨rfl,hb⟩
 exact ⟨rfl,box_thru (uh h) hb⟩
set_option maxRecDepth 20000 in
set_option maxHeartbeats 8000000 in
theorem writeNode_ok (w0 : World) (b : Nat) (hE : Env w0) (n : DNode) (hnb : nodeB n = true) (cs : List Value) (hR : RNode 0 w0 cs n)
  (w : World) (s : ByteArray) (hst : St w0 b s w) (hsz : s.size ≤ 50000000000000) :
  Calls Tryz.prog 12 #[.pointer (some ⟨b,0,none⟩),.agg cs.toArray] w fun r w' => r = .returned (.tuple #[]) ∧ St w0 b (s ++ ndT n) w' ∧ BKeeps b w w':=by
 obtain ⟨vi,vo,vv,ve,rfl,hnl,hins,houts,hvars,heqs⟩:=hR
 have hnsz : n.name.size ≤ 40:=name_size _ ((node_iff _).1 hnb).2.1
 obtain ⟨hv1,hv2,hv3⟩:=node_vars hnb
 have hvl:=((node_iff _).1 hnb).1
 have hzI:=dls_size n.ins hv1 (by omega)
 have hzO:=dls_size n.outs hv2 (by omega)
 have hzV:=dls_size n.vars hv3 (by omega)
 have HEQ:=hide (node_eqs hnb)
 have HEZ:=hide (fun j hj => eqs_size hnb j hj)
 have HND : Hid (ndT n = hdT n ++ (vrT n ++ (Llet ++ (catTo eqT n.eqs n.eqs.length ++ Ltel)))):=rfl
 have HHD : Hid (hdT n = Lnode ++ (n.name ++ (Lop ++ (jnT Lsemi (n.ins.map dlT) ++ (Lret ++ (jnT Lsemi (n.outs.map dlT) ++ Lcln)))))):=rfl
 have HVR : Hid (vrT n = if n.vars.length = 0 then ByteArray.empty else Lvar ++ (jnT Lsemi (n.vars.map dlT) ++ Lend)):=rfl
 generalize ndT n = nT at *
 generalize hdT n = hT at *
 generalize vrT n = vT at *
 obtain ⟨nm,ins,outs,vars,eqs⟩:=n
 simp only at *
 obtain ⟨ia,ic,rfl⟩:=hins.shape
 obtain ⟨oa,oc,rfl⟩:=houts.shape
 obtain ⟨va,vc,rfl⟩:=hvars.shape
 obtain ⟨ea,ec,rfl⟩:=heqs.shape
 have hP0 : Below w.heap.size w (w.alloc (.cells #[.string nm,.slice ia ins.length ic,.slice oa outs.length oc,.slice va vars.length vc,.slice ea eqs.length ec] 43)):=(Below.refl _ _).alloc (Nat.le_refl _) _
 have HP0:=hide hP0
 have HBX:=hide (blk_box w #[.string nm,.slice ia ins.length ic,.slice oa outs.length oc,.slice va vars.length vc,.slice ea eqs.length ec] 43)
 have HST0:=hide (hst.on hP0)
 have HB0d : Hid (Below (w.heap.size + 1) (w.alloc (.cells #[.string nm,.slice ia ins.length ic,.slice oa outs.length oc,.slice va vars.length vc,.slice ea eqs.length ec] 43)) (w.alloc (.cells #[.string nm,.slice ia ins.length ic,.slice oa outs.length oc,.slice va vars.length vc,.slice ea eqs.length ec] 43)).drew):=(Below.refl _ _).drew
 have HOUT : Hid (∀ w1,Below (w.heap.size + 1) (w.alloc (.cells #[.string nm,.slice ia ins.length ic,.slice oa outs.length oc,.slice va vars.length vc,.slice ea eqs.length ec] 43)) w1 → Below w0.heap.size w0 w1):=fun w1 h => (uh HST0).old.trans (h.mono (Nat.le_trans hst.old.size (Nat.le_succ _)))
 have HON : Hid (∀ w1,Below (w.heap.size + 1) (w.alloc (.cells #[.string nm,.slice ia ins.length ic,.slice oa outs.length oc,.slice va vars.length vc,.slice ea eqs.length ec] 43)) w1 → Below (w.alloc (.cells #[.string nm,.slice ia ins.length ic,.slice oa outs.length oc,.slice va vars.length vc,.slice ea eqs.length ec] 43)).heap.size (w.alloc (.cells #[.string nm,.slice ia ins.length ic,.slice oa outs.length oc,.slice va vars.length vc,.slice ea eqs.length ec] 43)) w1):=fun w1 h => by simpa using h
 have HDI:=hide (decls_bx ins ia ic hins hv1 (by omega) (uh HOUT))
 have HDO:=hide (decls_bx outs oa oc houts hv2 (by omega) (uh HOUT))
 have HDV0:=hide (fun w' (h : Below w0.heap.size w0 w') => declsText_ok vars _ w' (hvars.stays RVar_kept h) hv3 (by omega))
 have HES:=hide heqs
 have hel : eqs.length ≤ 500:=by omega
 clear hins houts hvars heqs hv1 hv2 hv3 hnb hnl hP0
 generalize jnT Lsemi (ins.map dlT) = jI at *
 generalize jnT Lsemi (outs.map dlT) = jO at *
 generalize jnT Lsemi (vars.map dlT) = jV at *
 have z1 : Lnode.size = 5:=rfl
 have z2 : Lop.size = 1:=rfl
 have z3 : Lret.size = 11:=rfl
 have z4 : Lcln.size = 2:=rfl
 have z5 : Lvar.size = 4:=rfl
 have z6 : Lend.size = 2:=rfl
 have z7 : Llet.size = 4:=rfl
 have z8 : Ltel.size = 4:=rfl
 have HWS : Hid (∀ w',Hid (Below (w.heap.size + 1) (w.alloc (.cells #[.string nm,.slice ia ins.length ic,.slice oa outs.length oc,.slice va vars.length vc,.slice ea eqs.length ec] 43)) w') → Calls Tryz.prog 25 #[.pointer (some ⟨b,0,none⟩),.string (Lnode ++ nm ++ Lop ++ jI ++ Lret ++ jO ++ Lcln)] w' fun e w'' => e = .returned (.tuple #[.int .i64 (Lnode ++ nm ++ Lop ++ jI ++ Lret ++ jO ++ Lcln).size,.nilIface]) ∧ Hid (St w0 b (s ++ (Lnode ++ nm ++ Lop ++ jI ++ Lret ++ jO ++ Lcln)) w'') ∧ Hid (BKeeps b (w.alloc (.cells #[.string nm,.slice ia ins.length ic,.slice oa outs.length oc,.slice va vars.length vc,.slice ea eqs.length ec] 43)) w'')):=fun w' h => by
  refine (writeString_ok (Lnode ++ nm ++ Lop ++ jI ++ Lret ++ jO ++ Lcln) ((uh HST0).on (uh HON w' (uh h))) (by simp only [ba_size]; omega)).mono ?_
  rintro e w'' ⟨rfl,h1,h2⟩
  exact ⟨rfl,h1,(kept_below (uh HON w' (uh h))).trans h2⟩
 have hS1 : (s ++ (Lnode ++ nm ++ Lop ++ jI ++ Lret ++ jO ++ Lcln)).size ≤ 50000001000000:=by simp only [ba_size]; omega
 have HSQ : Hid (s ++ hT = s ++ (Lnode ++ nm ++ Lop ++ jI ++ Lret ++ jO ++ Lcln)):=by
  show s ++ hT = s ++ (Lnode ++ nm ++ Lop ++ jI ++ Lret ++ jO ++ Lcln)
  rw [uh HHD]
  simp only [ba_assoc]
 have zt : (Lnode ++ nm ++ Lop ++ jI ++ Lret ++ jO ++ Lcln).size ≤ 1000000:=by simp only [ba_size]; omega
 have q0 : ¬ (9223372036854775807 < 5 + nm.size):=by omega
 have q1 : ¬ (9223372036854775807 < 5 + nm.size + 1):=by omega
 have q2 : ¬ (9223372036854775807 < 5 + nm.size + 1 + jI.size):=by omega
 have q3 : ¬ (9223372036854775807 < 5 + nm.size + 1 + jI.size + 11):=by omega
 have q4 : ¬ (9223372036854775807 < 5 + nm.size + 1 + jI.size + 11 + jO.size):=by omega
 have q5 : ¬ (9223372036854775807 < 5 + nm.size + 1 + jI.size + 11 + jO.size + 2):=by omega
 clear hst HHD
 go_enter Tryz.func12,Tryz.ntmps12
 go_wp2_with fail
 go_region_held3 (fun w' => w'.cell? ⟨w.heap.size,0,none⟩ = some (.string nm) ∧ w'.cell? ⟨w.heap.size,1,none⟩ = some (.slice ia ins.length ic) ∧ w'.cell? ⟨w.heap.size,2,none⟩ = some (.slice oa outs.length oc)) (go_keep) (first | (go_at_call 26; refine (uh HDI _ HB0d).mono ?_; rintro e w2 ⟨rfl,HB2⟩; have kk0 : w2.cell? ⟨w.heap.size,0,none⟩ = some (.string nm):=(box_cell (B:=0) (uh HB2) 0).trans rfl; have kk1 : w2.cell? ⟨w.heap.size,1,none⟩ = some (.slice ia ins.length ic):=(box_cell (B:=0) (uh HB2) 1).trans rfl; have kk2 : w2.cell? ⟨w.heap.size,2,none⟩ = some (.slice oa outs.length oc):=(box_cell (B:=0) (uh HB2) 2).trans rfl; clear HDI) | (go_at_call 26; refine (uh HDO _ HB2).mono ?_; rintro e w3 ⟨rfl,HB3⟩; have kk0 : w3.cell? ⟨w.heap.size,0,none⟩ = some (.string nm):=(box_cell (B:=0) (uh HB3) 0).trans rfl; have kk1 : w3.cell? ⟨w.heap.size,1,none⟩ = some (.slice ia ins.length ic):=(box_cell (B:=0) (uh HB3) 1).trans rfl; have kk2 : w3.cell? ⟨w.heap.size,2,none⟩ = some (.slice oa outs.length oc):=(box_cell (B:=0) (uh HB3) 2).trans rfl; clear HDO) | (go_at_call 25; refine (uh HWS _ HB3).mono ?_; rintro e w4 ⟨rfl,hst4,hk4⟩; have HBX4:=(uh HBX).kept (uh HST0) (uh hk4) (by decide); have kk0 : w4.cell? ⟨w.heap.size,0,none⟩ = some (.string nm):=HBX4.cell (i:=0) rfl; have kk1 : w4.cell? ⟨w.heap.size,1,none⟩ = some (.slice ia ins.length ic):=HBX4.cell (i:=1) rfl; have kk2 : w4.cell? ⟨w.heap.size,2,none⟩ = some (.slice oa outs.length oc):=HBX4.cell (i:=2) rfl; clear HWS))
 have HBX4':=hide HBX4
 have k3 : w4.cell? ⟨w.heap.size,3,none⟩ = some (.slice va vars.length vc):=HBX4.cell (i:=3) rfl
 have k4 : w4.cell? ⟨w.heap.size,4,none⟩ = some (.slice ea eqs.length ec):=HBX4.cell (i:=4) rfl
 clear kk0 kk1 kk2 HBX4
 clear q0 q1 q2 q3 q4 q5
 have HK4 : Hid (BKeeps b w w4):=(kept_below (uh HP0)).trans (uh hk4)
 by_cases hvz : vars.length = 0
 ·rw [if_pos hvz] at HVR
  have HC5:=hide (writeString_ok Llet (uh hst4) (by omega))
  obtain ⟨pre,hpre⟩ : ∃ p,p = s ++ (Lnode ++ nm ++ Lop ++ jI ++ Lret ++ jO ++ Lcln) ++ Llet:=⟨_,rfl⟩
  have hprz : pre.size ≤ 50000002000000:=by
   rw [hpre,ba_size]
   omega
  have HFIN : Hid (s ++ nT = pre ++ catTo eqT eqs eqs.length ++ Ltel):=by
   show s ++ nT = pre ++ catTo eqT eqs eqs.length ++ Ltel
   rw [uh HND,uh HVR,ba_nil',← ba_assoc,uh HSQ,hpre]
   simp only [ba_assoc]
  rw [← hpre] at HC5
  clear hpre HND HVR HSQ hS1 zt HDV0
  generalize vars.length = nv at *
  subst hvz
  go_wp2_with fail
  refine (uh HC5).mono ?_
  rintro e w5 ⟨rfl,hst5,hk5⟩
  have HSTL:=hide hst5
  have HKL : Hid (BKeeps b w w5):=(uh HK4).trans hk5
  have k5 : w5.cell? ⟨w.heap.size,4,none⟩ = some (.slice ea eqs.length ec):=((uh HBX4').kept (uh hst4) hk5 (by decide)).cell (i:=4) rfl
  clear hst5 hk5 k4 k3
  go_wp2
  go_loopg [38] eqs.length (fun g i wr => ∃ (j : Nat),j ≤ eqs.length ∧ g = eqs.length - j ∧ i = .int .i64 j ∧ St w0 b (pre ++ catTo eqT eqs j) wr ∧ BKeeps b w wr)
  case atStart => exact ⟨0,Nat.zero_le _,by omega,rfl,by rw [catTo_zero,ba_nil]; exact uh HSTL,uh HKL⟩
  case round =>
   obtain ⟨j,hj,hg,rfl,hstj,hkj⟩:=hrel
   rename World => wM
   have HG:=hide hg
   have HSTJ:=hide hstj
   have HKJ:=hide hkj
   clear hg hstj hkj
   have hzj:=uh HEZ j hj
   by_cases hlt : j < eqs.length
   ·obtain ⟨bb,oo,cs,hbo,_,hbb,hcs,hc0,hR⟩:=(uh HES).el j hlt
    subst hbo
    have hc : ∀ i (hi : i < cs.length),wM.cell? ⟨bb,oo + j * 4 + i,none⟩ = some cs[i]:=fun i hi => by rw [(uh HSTJ).old.cell (p:=⟨bb,_,none⟩) hbb]; exact hc0 i hi
    obtain ⟨l,c,v,rfl,hcz,hl1,hc1,hv1⟩:=hR
    have c0:=hc 0 (by simp)
    have c1:=hc 1 (by simp)
    have c2:=hc 2 (by simp)
    have c3:=hc 3 (by simp)
    simp only [Nat.mul_one,Nat.add_zero,List.getElem_cons_zero,List.getElem_cons_succ] at c0 c1 c2 c3
    have heb:=uh HEQ eqs[j] (List.getElem_mem hlt)
    have hP1 : Below wM.heap.size wM (wM.alloc (.cells #[l,c,.string eqs[j].call,v] 58)):=(Below.refl _ _).alloc (Nat.le_refl _) _
    have HP1:=hide hP1
    have HC1:=hide (writeEquation_ok w0 b hE eqs[j] heb l c v hl1 hc1 hv1 _ _ ((uh HSTJ).on hP1) (by rw [ba_size]; omega))
    have HTE:=hide (catTo_succ eqT eqs j hlt)
    have HAS : Hid (pre ++ catTo eqT eqs (j + 1) = pre ++ catTo eqT eqs j ++ eqT eqs[j]):=by
     show pre ++ catTo eqT eqs (j + 1) = pre ++ catTo eqT eqs j ++ eqT eqs[j]
     rw [uh HTE,ba_assoc]
    obtain ⟨la,lc,rfl⟩:=hl1.shape
    obtain ⟨ca,cc,rfl⟩:=hc1.shape
    obtain ⟨xa,xc,rfl⟩:=hv1.shape
    clear hc hc0 hcs hcz hl1 hc1 hv1 heb hP1 HTE
    generalize catTo eqT eqs j = cj at *
    generalize eqs[j] = eq at *
    generalize eqT eq = te at *
    obtain ⟨lhs,code,call,args⟩:=eq
    simp only at *
    go_wp2_with fail
    refine (uh HC1).mono ?_
    rintro e w6 ⟨rfl,hst6,hk6⟩
    go_wp2
    go_roundg (eqs.length - (j + 1))
    case measure => have:=uh HG; omega
    case rel => exact ⟨j + 1,by omega,rfl,by go_num,by rw [uh HAS]; exact hst6,((uh HKJ).trans (kept_below (uh HP1))).trans hk6⟩
   ·have e : j = eqs.length:=by omega
    subst e
    have HC1:=hide (writeString_ok Ltel (uh HSTJ) (by rw [ba_size]; omega))
    generalize hCQ : catTo eqT eqs eqs.length = ce at *
    have HCQ:=hide hCQ
    clear hCQ
    go_wp2_with fail
    refine (uh HC1).mono ?_
    rintro e w6 ⟨rfl,hst6,hk6⟩
    go_wp2
    go_end0
    exact ⟨rfl,by rw [uh HFIN]; exact hst6,(uh HKJ).trans hk6⟩
 ·rw [if_neg hvz] at HVR
  have hvp : 0 < vars.length:=by omega
  have HC4:=hide (uh HDV0 w4 (uh hst4).old)
  obtain ⟨pre,hpre⟩ : ∃ p,p = s ++ (Lnode ++ nm ++ Lop ++ jI ++ Lret ++ jO ++ Lcln) ++ (Lvar ++ jV ++ Lend) ++ Llet:=⟨_,rfl⟩
  have hprz : pre.size ≤ 50000002000000:=by
   rw [hpre]
   rw [ba_size,ba_size (s ++ (Lnode ++ nm ++ Lop ++ jI ++ Lret ++ jO ++ Lcln))]
   simp only [ba_size (Lvar ++ jV),ba_size Lvar]
   omega
  have HFIN : Hid (s ++ nT = pre ++ catTo eqT eqs eqs.length ++ Ltel):=by
   show s ++ nT = pre ++ catTo eqT eqs eqs.length ++ Ltel
   rw [uh HND,uh HVR,← ba_assoc,uh HSQ,hpre]
   simp only [ba_assoc]
  have HPRE:=hide hpre
  clear hpre HND HVR HSQ zt
  generalize s ++ (Lnode ++ nm ++ Lop ++ jI ++ Lret ++ jO ++ Lcln) = S at *
  go_wp2_with fail
  refine (uh HC4).mono ?_
  rintro e w5 ⟨rfl,hb5⟩
  have HB5:=hide hb5
  have HST5:=hide ((uh hst4).on hb5)
  have HBX5:=hide ((uh HBX4').below hb5 (uh HBX4').lt)
  have HC6:=hide (writeString_ok (Lvar ++ jV ++ Lend) (uh HST5) (by simp only [ba_size]; omega))
  clear hb5 HC4 k3 k4
  go_wp2_with fail
  refine (uh HC6).mono ?_
  rintro e w6 ⟨rfl,hst6,hk6⟩
  have HST6:=hide hst6
  have HK6 : Hid (BKeeps b w w6):=((uh HK4).trans (kept_below (uh HB5))).trans hk6
  have HBX6:=hide ((uh HBX5).kept (uh HST5) hk6 (by decide))
  have HC7:=hide (writeString_ok Llet hst6 (by simp only [ba_size]; omega))
  rw [← uh HPRE] at HC7
  clear hst6 hk6 HC6 HPRE
  go_wp2_with fail
  refine (uh HC7).mono ?_
  rintro e w7 ⟨rfl,hst7,hk7⟩
  have HSTL:=hide hst7
  have HKL : Hid (BKeeps b w w7):=(uh HK6).trans hk7
  have k5 : w7.cell? ⟨w.heap.size,4,none⟩ = some (.slice ea eqs.length ec):=((uh HBX6).kept (uh HST6) hk7 (by decide)).cell (i:=4) rfl
  clear hst7 hk7 hS1
  go_wp2
  go_loopg [38] eqs.length (fun g i wr => ∃ (j : Nat),j ≤ eqs.length ∧ g = eqs.length - j ∧ i = .int .i64 j ∧ St w0 b (pre ++ catTo eqT eqs j) wr ∧ BKeeps b w wr)
  case atStart => exact ⟨0,Nat.zero_le _,by omega,rfl,by rw [catTo_zero,ba_nil]; exact uh HSTL,uh HKL⟩
  case round =>
   obtain ⟨j,hj,hg,rfl,hstj,hkj⟩:=hrel
   rename World => wM
   have HG:=hide hg
   have HSTJ:=hide hstj
   have HKJ:=hide hkj
   clear hg hstj hkj
   have hzj:=uh HEZ j hj
   by_cases hlt : j < eqs.length
   ·obtain ⟨bb,oo,cs,hbo,_,hbb,hcs,hc0,hR⟩:=(uh HES).el j hlt
    subst hbo
    have hc : ∀ i (hi : i < cs.length),wM.cell? ⟨bb,oo + j * 4 + i,none⟩ = some cs[i]:=fun i hi => by rw [(uh HSTJ).old.cell (p:=⟨bb,_,none⟩) hbb]; exact hc0 i hi
    obtain ⟨l,c,v,rfl,hcz,hl1,hc1,hv1⟩:=hR
    have c0:=hc 0 (by simp)
    have c1:=hc 1 (by simp)
    have c2:=hc 2 (by simp)
    have c3:=hc 3 (by simp)
    simp only [Nat.mul_one,Nat.add_zero,List.getElem_cons_zero,List.getElem_cons_succ] at c0 c1 c2 c3
    have heb:=uh HEQ eqs[j] (List.getElem_mem hlt)
    have hP1 : Below wM.heap.size wM (wM.alloc (.cells #[l,c,.string eqs[j].call,v] 58)):=(Below.refl _ _).alloc (Nat.le_refl _) _
    have HP1:=hide hP1
    have HC1:=hide (writeEquation_ok w0 b hE eqs[j] heb l c v hl1 hc1 hv1 _ _ ((uh HSTJ).on hP1) (by rw [ba_size]; omega))
    have HTE:=hide (catTo_succ eqT eqs j hlt)
    have HAS : Hid (pre ++ catTo eqT eqs (j + 1) = pre ++ catTo eqT eqs j ++ eqT eqs[j]):=by
     show pre ++ catTo eqT eqs (j + 1) = pre ++ catTo eqT eqs j ++ eqT eqs[j]
     rw [uh HTE,ba_assoc]
    obtain ⟨la,lc,rfl⟩:=hl1.shape
    obtain ⟨ca,cc,rfl⟩:=hc1.shape
    obtain ⟨xa,xc,rfl⟩:=hv1.shape
    clear hc hc0 hcs hcz hl1 hc1 hv1 heb hP1 HTE
    generalize catTo eqT eqs j = cj at *
    generalize eqs[j] = eq at *
    generalize eqT eq = te at *
    obtain ⟨lhs,code,call,args⟩:=eq
    simp only at *
    go_wp2_with fail
    refine (uh HC1).mono ?_
    rintro e w6 ⟨rfl,hst6,hk6⟩
    go_wp2
    go_roundg (eqs.length - (j + 1))
    case measure => have:=uh HG; omega
    case rel => exact ⟨j + 1,by omega,rfl,by go_num,by rw [uh HAS]; exact hst6,((uh HKJ).trans (kept_below (uh HP1))).trans hk6⟩
   ·have e : j = eqs.length:=by omega
    subst e
    have HC1:=hide (writeString_ok Ltel (uh HSTJ) (by rw [ba_size]; omega))
    generalize hCQ : catTo eqT eqs eqs.length = ce at *
    have HCQ:=hide hCQ
    clear hCQ
    go_wp2_with fail
    refine (uh HC1).mono ?_
    rintro e w6 ⟨rfl,hst6,hk6⟩
    go_wp2
    go_end0
    exact ⟨rfl,by rw [uh HFIN]; exact hst6,(uh HKJ).trans hk6⟩
def ptT (ns : List DNode) : ByteArray:=if shapeB ns = true then prT ns else ⟨#[]⟩
theorem st_start (w : World) : St w w.heap.size ByteArray.empty (w.alloc (.cells #[.pointer none,.slice none 0 0] 47)):=by
 refine ⟨(Below.refl _ _).alloc (Nat.le_refl _) _,.inl ⟨Nat.le_refl _,.slice none 0 0,blk_box _ _ _,⟨rfl,.inl ⟨rfl,rfl⟩⟩,?_⟩⟩
 intro h
 cases h
set_option maxRecDepth 20000 in
set_option maxHeartbeats 4000000 in
theorem implPrint_ok (ns : List DNode) (v : Value) (w : World) (hE : Env w) (hv : SlAt 5 112 RNode 0 w v ns) :
  Calls Tryz.prog 5 #[.agg #[v]] w (Ans (.string (ptT ns)) w):=by
 have HV:=hide hv
 obtain ⟨a,cap,rfl⟩:=hv.shape
 have hn:=hv.len
 have P0:=hide ((Below.refl w.heap.size w).alloc (Nat.le_refl _) (.cells #[.slice a ns.length cap] 25))
 have HC1:=hide (implShape_ok ns _ (w.alloc (.cells #[.slice a ns.length cap] 25)) (hv.stays RNode_kept (uh P0)))
 have HE:=hide hE
 clear hv hE
 by_cases hsh : shapeB ns = true
 ·have HPT : Hid (ptT ns = prT ns):=by
   show ptT ns = prT ns
   unfold ptT
   rw [if_pos hsh]
  have HPZ:=hide (fun k hk => prT_size hsh k hk)
  have HN : Hid (∀ n,n ∈ ns → nodeB n = true):=by
   have:=hsh
   simp only [shapeB,Bool.and_eq_true,decide_eq_true_iff,List.all_eq_true] at this
   exact this.2
  rw [hsh] at HC1
  clear hsh
  go_enter Tryz.func5,Tryz.ntmps5
  go_wp2_with fail
  refine (uh HC1).mono ?_
  rintro e w1 ⟨rfl,hb1⟩
  have kp : w1.cell? ⟨w.heap.size,0,none⟩ = some (.slice a ns.length cap):=by rw [box_cell (B:=0) (box_of hb1) 0]; rfl
  have HB1 : Hid (Below w.heap.size w w1):=(uh P0).trans (hb1.mono (uh P0).size)
  have hs1 : w.heap.size < w1.heap.size:=by have:=(box_of hb1).size; simp at this; omega
  have HV1:=hide ((uh HV).stays RNode_kept (uh HB1))
  have HE1:=hide ((uh HE).below (uh HB1) (uh HE).three)
  have HST1:=hide (st_start w1)
  clear hb1 HC1
  go_wp2
  go_loopg [12] ns.length (fun g i wr => ∃ (k : Nat),k ≤ ns.length ∧ g = ns.length - k ∧ i = .int .i64 k ∧ St w1 w1.heap.size (catTo ndT ns k) wr)
  case atStart => exact ⟨0,Nat.zero_le _,by omega,rfl,by rw [catTo_zero]; exact uh HST1⟩
  case round =>
   obtain ⟨k,hk,hg,rfl,hst⟩:=hrel
   rename World => wN
   have HG:=hide hg
   have HST:=hide hst
   have hz:=uh HPZ k hk
   clear hg hst
   by_cases hlt : k < ns.length
   ·obtain ⟨b,o,cs,hbo,_,hb,hcs,hc0,hR⟩:=(uh HV1).el k hlt
    subst hbo
    have hc : ∀ j (hj : j < cs.length),wN.cell? ⟨b,o + k * 5 + j,none⟩ = some cs[j]:=fun j hj => by rw [(uh HST).old.cell (p:=⟨b,_,none⟩) hb]; exact hc0 j hj
    have hnb:=uh HN ns[k] (List.getElem_mem hlt)
    have HC2 : Hid (∀ w',St w1 w1.heap.size (catTo ndT ns k) w' → _):=fun w' h => writeNode_ok w1 w1.heap.size (uh HE1) ns[k] hnb cs hR w' _ h (by omega)
    obtain ⟨vi,vo,vv,ve,rfl,hnl,hins,houts,hvars,heqs⟩:=hR
    have c0:=hc 0 (by simp)
    have c1:=hc 1 (by simp)
    have c2:=hc 2 (by simp)
    have c3:=hc 3 (by simp)
    have c4:=hc 4 (by simp)
    simp only [Nat.mul_one,Nat.add_zero,List.getElem_cons_zero,List.getElem_cons_succ] at c0 c1 c2 c3 c4
    have HT:=hide (catTo_succ ndT ns k hlt)
    obtain ⟨ia,ic,rfl⟩:=hins.shape
    obtain ⟨oa,oc,rfl⟩:=houts.shape
    obtain ⟨va,vc,rfl⟩:=hvars.shape
    obtain ⟨ea,ec,rfl⟩:=heqs.shape
    have P1 : Hid (Below wN.heap.size wN (wN.alloc (.cells #[.string ns[k].name,.slice ia ns[k].ins.length ic,.slice oa ns[k].outs.length oc,.slice va ns[k].vars.length vc,.slice ea ns[k].eqs.length ec] 43))):=(Below.refl _ _).alloc (Nat.le_refl _) _
    have HC3:=hide (uh HC2 _ ((uh HST).on (uh P1)))
    clear hc hc0 hcs hnb HC2 hnl hins houts hvars heqs
    generalize catTo ndT ns k = tk at *
    generalize ndT ns[k] = tn at *
    generalize ns[k].ins.length = n1 at *
    generalize ns[k].outs.length = n2 at *
    generalize ns[k].vars.length = n3 at *
    generalize ns[k].eqs.length = n4 at *
    generalize ns[k].name = nm at *
    go_wp2_with fail
    refine (uh HC3).mono ?_
    rintro e w3 ⟨rfl,hst3,hk3⟩
    go_wp2
    go_roundg (ns.length - (k + 1))
    case measure => have:=uh HG; omega
    case rel => exact ⟨k + 1,by omega,rfl,by go_num,by rw [uh HT]; exact hst3⟩
   ·have e : k = ns.length:=by omega
    subst e
    have hold:=(uh HST).old
    have HC4:=hide (Tryz.Builder_String_any_k w1.heap.size w1.heap.size (catTo ndT ns ns.length).data.toList wN (uh HST).bld hold.size)
    have HR : Hid ((⟨(catTo ndT ns ns.length).data.toList.toArray⟩ : ByteArray) = ptT ns):=by
     show (⟨(catTo ndT ns ns.length).data.toList.toArray⟩ : ByteArray) = ptT ns
     rw [uh HPT]
     rfl
    have HO:=hide hold
    clear hold
    generalize catTo ndT ns ns.length = ct at *
    go_wp2_with fail
    refine (uh HC4).mono ?_
    rintro e w3 ⟨rfl,_,hb3,_⟩
    rw [uh HR]
    go_wp2
    go_ret
    exact ⟨rfl,(uh HB1).trans (((uh HO).trans hb3).mono (by omega))⟩
 ·have HPT : Hid (ptT ns = ⟨#[]⟩):=by
   show ptT ns = ⟨#[]⟩
   unfold ptT
   rw [if_neg hsh]
  have hsf : shapeB ns = false:=by simpa using hsh
  rw [hsf] at HC1
  clear hsf hsh
  go_enter Tryz.func5,Tryz.ntmps5
  go_wp2_with fail
  refine (uh HC1).mono ?_
  rintro e w1 ⟨rfl,hb1⟩
  have HB1 : Hid (Below w.heap.size w w1):=(uh P0).trans (hb1.mono (uh P0).size)
  clear hb1 HC1
  go_wp2
  go_ret
  exact ⟨ret_str (uh HPT).symm,uh HB1⟩
end Go.Proofs.YtajabbnlbopcbaaGreatDoor
