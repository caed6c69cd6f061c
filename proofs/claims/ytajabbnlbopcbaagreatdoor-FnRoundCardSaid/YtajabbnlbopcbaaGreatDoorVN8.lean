import Derived.Test.YtajabbnlbopcbaaGreatDoorVN7
namespace Go.Proofs.YtajabbnlbopcbaaGreatDoor
open Go.RowKit
set_option linter.unusedSimpArgs false
set_option linter.unusedVariables false
def slotN (s : Nat) (a : Act) : Nat:=match a.tmps.getD s undef with | .int _ v => v.toNat | _ => 0
theorem slotN_int {s : Nat} {x : Array Value} {v : Int} (h : x.getD s undef = .int .i64 v) : slotN s ⟨x,[]⟩ = v.toNat:=by
 unfold slotN
 rw [show (⟨x,[]⟩ : Act).tmps = x from rfl,h]
set_option maxRecDepth 1000000 in
theorem nv_exit {u : Nat → Value} {on : Nat} {Z : World} (h95 : u 95 = .int .i64 on) (h96 : u 96 = .int .i64 on) {K K1 K2 K3 K4 K6 : Act → World → Prop} {PO : Ending → World → Prop} (HK : ∀ x : Array Value,x.size = 266 → x.getD 0 undef = u 0 → x.getD 1 undef = u 1 → x.getD 4 undef = u 4 → x.getD 5 undef = u 5 → x.getD 8 undef = u 8 → x.getD 9 undef = u 9 → x.getD 10 undef = u 10 → x.getD 11 undef = u 11 → x.getD 12 undef = u 12 → x.getD 13 undef = u 13 → x.getD 14 undef = u 14 → K6 ⟨x,[]⟩ Z) : Code.wp Tryz.prog (inC (inC (rtC 1 (lfC (rtC 2 (thC (rtC 1 (lfC (rtC 2 (inC (lfC (rtC 1 (inC (inC (rtC 1 (lfC (rtC 8 (Tryz.f21.body.getD .skip)))))))))))))))))) (Exit.then K4 (Exit.inBlock 4 (Exit.then K6 (Exit.then K3 (Exit.inBlock 3 (Exit.then K2 (Exit.then K (Exit.inBlock 2 (Exit.then K1 (bodyPost Tryz.prog Tryz.f21 PO)))))))))) (FrN u) Z:=by
 have HKK:=hide HK
 clear HK
 unfold FrN
 rw [h95,h96]
 clear h95 h96
 conv => arg 2; whnf
 go_wp2
 exact uh HKK _ rfl rfl rfl rfl rfl rfl rfl rfl rfl rfl rfl rfl
set_option maxRecDepth 1000000 in
theorem arg_exit {u : Nat → Value} {on : Nat} {Z : World} (h131 : u 131 = .int .i64 on) (h132 : u 132 = .int .i64 on) {K K1 K2 K3 K4 K6 : Act → World → Prop} {PO : Ending → World → Prop} (HK : ∀ x : Array Value,x.size = 266 → x.getD 0 undef = u 0 → x.getD 1 undef = u 1 → x.getD 4 undef = u 4 → x.getD 5 undef = u 5 → x.getD 8 undef = u 8 → x.getD 9 undef = u 9 → x.getD 10 undef = u 10 → x.getD 11 undef = u 11 → x.getD 12 undef = u 12 → x.getD 14 undef = u 14 → K6 ⟨x,[]⟩ Z) : Code.wp Tryz.prog (inC (inC (rtC 1 (lfC (rtC 3 (thC (rtC 1 (lfC (rtC 2 (inC (lfC (rtC 1 (inC (inC (rtC 1 (lfC (rtC 8 (Tryz.f21.body.getD .skip)))))))))))))))))) (Exit.then K4 (Exit.inBlock 6 (Exit.then K6 (Exit.then K3 (Exit.inBlock 3 (Exit.then K2 (Exit.then K (Exit.inBlock 2 (Exit.then K1 (bodyPost Tryz.prog Tryz.f21 PO)))))))))) (FrN u) Z:=by
 have HKK:=hide HK
 clear HK
 unfold FrN
 rw [h131,h132]
 clear h131 h132
 conv => arg 2; whnf
 go_wp2
 exact uh HKK _ rfl rfl rfl rfl rfl rfl rfl rfl rfl rfl rfl
set_option maxRecDepth 1000000 in
theorem nv_loop {code : List Int} {W0 : World} {cb : Nat} {cv : Value} {w : World} {rb nb sb : Nat} {X : World} {c : Cur} {nm : ByteArray} {sv vi vo vv qv ev : Value} {rank : Nat} {xs is os vs : List DVar} {qs es : List DEq} {hi : Nat} {k : List DCond} {ka : Option Addr} {kn kc : Nat} (hk : Kz w.heap.size hi X (.slice ka kn kc) k) (hkk : kOK k) (hk3 : k.length ≤ 3) (p : Nz code W0 cb cv w rb nb sb X c nm sv vi vo vv qv ev rank xs is os vs qs es hi) (hwh : w.heap.size ≤ hi) (hl : xs.length ≤ 80) (hvl : vs.length ≤ 80)
  {eb fb : Nat} {fn : ByteArray} (q : Ez hi X eb (.slice none 0 0) (.slice none 0 0) fn []) {fc : Array Value} (hfb : BlkAt X fb 43 fc) (hfn : fb ≠ nb)
  {outs : List DVar} {oa : Option Addr} {on oc : Nat} (ho : SlAt 3 48 RVar (cb + 1) w (.slice oa on oc) outs) (hov : vsOK outs) (hoc : outs.length ≤ 3)
  {u : Nat → Value} (h0 : u 0 = .pointer (some ⟨cb,0,none⟩)) (h5 : u 5 = .pointer (some ⟨nb,0,none⟩)) (h8 : u 8 = .pointer (some ⟨sb,0,none⟩)) (h12 : u 12 = .slice ka kn kc) (h14 : u 14 = .pointer (some ⟨eb,0,none⟩)) (h94 : u 94 = .slice oa on oc) (h95 : u 95 = .int .i64 on) (h96 : u 96 = .int .i64 0) {K K1 K2 K3 K6 : Act → World → Prop} {PO : Ending → World → Prop}
  (HK : ∀ x Z sv9 vv9 lv9,x.size = 266 → x.getD 0 undef = .pointer (some ⟨cb,0,none⟩) ∧ x.getD 1 undef = u 1 ∧ x.getD 4 undef = u 4 ∧ x.getD 5 undef = .pointer (some ⟨nb,0,none⟩) ∧ x.getD 8 undef = .pointer (some ⟨sb,0,none⟩) ∧ x.getD 9 undef = u 9 ∧ x.getD 10 undef = u 10 ∧ x.getD 11 undef = u 11 ∧ x.getD 12 undef = .slice ka kn kc ∧ x.getD 13 undef = u 13 ∧ x.getD 14 undef = .pointer (some ⟨eb,0,none⟩) → Hid (Nz code W0 cb cv w rb nb sb Z c nm sv9 vi vo vv9 qv ev rank (xs ++ nvTo xs.length outs k outs.length) is os (vs ++ nvTo xs.length outs k outs.length) qs es hi ∧ Ez hi Z eb lv9 (.slice none 0 0) fn ((nvTo xs.length outs k outs.length).map (·.name)) ∧ BlkAt Z fb 43 fc ∧ Kz w.heap.size hi Z (.slice ka kn kc) k) → K6 ⟨x,[]⟩ Z) :
  Code.wp Tryz.prog (.loop (inC (inC (rtC 1 (lfC (rtC 2 (thC (rtC 1 (lfC (rtC 2 (inC (lfC (rtC 1 (inC (inC (rtC 1 (lfC (rtC 8 (Tryz.f21.body.getD .skip))))))))))))))))))) (Exit.inBlock 4 (Exit.then K6 (Exit.then K3 (Exit.inBlock 3 (Exit.then K2 (Exit.then K (Exit.inBlock 2 (Exit.then K1 (bodyPost Tryz.prog Tryz.f21 PO))))))))) (FrN u) X:=by
 have hon : on = outs.length:=by
  obtain ⟨a9,c9,he9,_⟩:=ho
  simp only [Value.slice.injEq] at he9
  exact he9.2.1
 refine wp_loop (fun a' wr => ∃ (x : Array Value) (j9 : Nat) (sv9 vv9 lv9 : Value),a' = ⟨x,[]⟩ ∧ x.size = 266 ∧ (x.getD 0 undef = .pointer (some ⟨cb,0,none⟩) ∧ x.getD 1 undef = u 1 ∧ x.getD 4 undef = u 4 ∧ x.getD 5 undef = .pointer (some ⟨nb,0,none⟩) ∧ x.getD 8 undef = .pointer (some ⟨sb,0,none⟩) ∧ x.getD 9 undef = u 9 ∧ x.getD 10 undef = u 10 ∧ x.getD 11 undef = u 11 ∧ x.getD 12 undef = .slice ka kn kc ∧ x.getD 13 undef = u 13 ∧ x.getD 14 undef = .pointer (some ⟨eb,0,none⟩) ∧ x.getD 94 undef = .slice oa on oc ∧ x.getD 95 undef = .int .i64 on ∧ x.getD 96 undef = .int .i64 j9) ∧ j9 ≤ outs.length ∧ Hid (Nz code W0 cb cv w rb nb sb wr c nm sv9 vi vo vv9 qv ev rank (xs ++ nvTo xs.length outs k j9) is os (vs ++ nvTo xs.length outs k j9) qs es hi ∧ Ez hi wr eb lv9 (.slice none 0 0) fn ((nvTo xs.length outs k j9).map (·.name)) ∧ BlkAt wr fb 43 fc ∧ Kz w.heap.size hi wr (.slice ka kn kc) k)) (fun a' _ => outs.length - slotN 96 a') ?_ ?_
 ·refine ⟨_,0,sv,vv,.slice none 0 0,rfl,rfl,⟨h0,rfl,rfl,h5,h8,rfl,rfl,rfl,h12,rfl,h14,h94,h95,h96⟩,Nat.zero_le _,?_⟩
  refine ⟨?_,q,hfb,hk⟩
  rw [nvTo,List.append_nil,List.append_nil]
  exact p
 ·rintro a' wr ⟨x,j9,sv9,vv9,lv9,rfl,hsz,⟨k0,k1,k4,k5,k8,k9,k10,k11,k12,k13,k14,k94,k95,k96⟩,hj,hst⟩
  obtain ⟨hN,hE,hF,hZ⟩:=uh hst
  have hln:=nvTo_len xs.length outs k j9
  have hxl : (xs ++ nvTo xs.length outs k j9).length = xs.length + j9:=by rw [List.length_append,hln]
  have hvl2 : (vs ++ nvTo xs.length outs k j9).length = vs.length + j9:=by rw [List.length_append,hln]
  have hll : ((nvTo xs.length outs k j9).map (·.name)).length = j9:=by rw [List.length_map,hln]
  rw [slotN_int k96,frN_mk x hsz]
  by_cases hlt : j9 < outs.length
  ·refine nv_round (j:=j9) hZ hkk hk3 hN hwh (by omega) (by omega) hE (by omega) hF hfn (ho.kept RVar_kept (Kept.of_tr hN.tr)) hov hlt (by omega) k0 k5 k8 k12 k14 k94 k95 k96 ?_
   intro y Z sv2 vv2 lv2 hy j0 j1 j4 j5 j8 jx9 j10 j11 j12 j13 j14 j94 j95 j96 hn2 he2 hf2 hz2
   have es : nvTo xs.length outs k (j9 + 1) = nvTo xs.length outs k j9 ++ [⟨nmV 118 (xs.length + j9),(outs.getD j9 dV).type,k⟩]:=rfl
   rw [hxl] at hn2 he2
   refine ⟨⟨y,j9 + 1,sv2,vv2,lv2,rfl,hy,⟨j0,j1.trans k1,j4.trans k4,j5,j8,jx9.trans k9,j10.trans k10,j11.trans k11,j12,j13.trans k13,j14,j94,j95,j96⟩,hlt,?_⟩,?_⟩
   ·refine ⟨?_,?_,hf2,hz2⟩
    ·rw [es,← List.append_assoc,← List.append_assoc]
     exact hn2
    ·rw [es,List.map_append]
     exact he2
   ·rw [slotN_int j96]
    omega
  ·have e : j9 = outs.length:=by omega
   subst e
   refine nv_exit (on:=on) k95 (by rw [k96,hon]) ?_
   intro y hy j0 j1 j4 j5 j8 jx9 j10 j11 j12 j13 j14
   exact HK y wr sv9 vv9 lv9 hy ⟨j0.trans k0,j1.trans k1,j4.trans k4,j5.trans k5,j8.trans k8,jx9.trans k9,j10.trans k10,j11.trans k11,j12.trans k12,j13.trans k13,j14.trans k14⟩ ⟨hN,hE,hF,hZ⟩
set_option maxRecDepth 1000000 in
theorem arg_loop {code : List Int} {W0 : World} {cb : Nat} {cv : Value} {w : World} {rb nb sb : Nat} {X : World} {c : Cur} {nm : ByteArray} {sv vi vo vv qv ev : Value} {rank : Nat} {xs is os vs : List DVar} {qs es : List DEq} {hi : Nat} {k : List DCond} {ka : Option Addr} {kn kc : Nat} (hk : Kz w.heap.size hi X (.slice ka kn kc) k) (hkk : kOK k) (hk3 : k.length ≤ 3) (p : Nz code W0 cb cv w rb nb sb X c nm sv vi vo vv qv ev rank xs is os vs qs es hi) (hwh : w.heap.size ≤ hi) (hl : xs.length ≤ 100) (hv : vsOK xs)
  {eb B : Nat} {lv : Value} {fn : ByteArray} {ls : List ByteArray} (q : Ez hi X eb lv (.slice none 0 0) fn ls) (heB : eb < B) (hBX : B ≤ X.heap.size)
  {ins : List DVar} {oa : Option Addr} {on oc : Nat} (ho : SlAt 3 48 RVar (cb + 1) w (.slice oa on oc) ins) (hoc : ins.length ≤ 3) (hok : okB 1449 c)
  {u : Nat → Value} (h0 : u 0 = .pointer (some ⟨cb,0,none⟩)) (h8 : u 8 = .pointer (some ⟨sb,0,none⟩)) (h12 : u 12 = .slice ka kn kc) (h14 : u 14 = .pointer (some ⟨eb,0,none⟩)) (h130 : u 130 = .slice oa on oc) (h131 : u 131 = .int .i64 on) (h132 : u 132 = .int .i64 0) {K K1 K2 K3 K6 : Act → World → Prop} {PO : Ending → World → Prop}
  (HK : ∀ x Z av9,x.size = 266 → x.getD 0 undef = .pointer (some ⟨cb,0,none⟩) ∧ x.getD 1 undef = u 1 ∧ x.getD 4 undef = u 4 ∧ x.getD 5 undef = u 5 ∧ x.getD 8 undef = .pointer (some ⟨sb,0,none⟩) ∧ x.getD 9 undef = u 9 ∧ x.getD 10 undef = u 10 ∧ x.getD 11 undef = u 11 ∧ x.getD 12 undef = .slice ka kn kc ∧ x.getD 14 undef = .pointer (some ⟨eb,0,none⟩) → Hid (Nz code W0 cb cv w rb nb sb Z (argTo code xs rank k ins ins.length c).2 nm sv vi vo vv qv ev rank xs is os vs qs es hi ∧ Ez hi Z eb lv av9 fn ls ∧ MkR rItems TItems B Z av9 (argTo code xs rank k ins ins.length c).1 ∧ Kz w.heap.size hi Z (.slice ka kn kc) k ∧ B ≤ Z.heap.size) → K6 ⟨x,[]⟩ Z) :
  Code.wp Tryz.prog (.loop (inC (inC (rtC 1 (lfC (rtC 3 (thC (rtC 1 (lfC (rtC 2 (inC (lfC (rtC 1 (inC (inC (rtC 1 (lfC (rtC 8 (Tryz.f21.body.getD .skip))))))))))))))))))) (Exit.inBlock 6 (Exit.then K6 (Exit.then K3 (Exit.inBlock 3 (Exit.then K2 (Exit.then K (Exit.inBlock 2 (Exit.then K1 (bodyPost Tryz.prog Tryz.f21 PO))))))))) (FrN u) X:=by
 have hon : on = ins.length:=by
  obtain ⟨a9,c9,he9,_⟩:=ho
  simp only [Value.slice.injEq] at he9
  exact he9.2.1
 refine wp_loop (fun a' wr => ∃ (x : Array Value) (j9 : Nat) (av9 : Value),a' = ⟨x,[]⟩ ∧ x.size = 266 ∧ (x.getD 0 undef = .pointer (some ⟨cb,0,none⟩) ∧ x.getD 1 undef = u 1 ∧ x.getD 4 undef = u 4 ∧ x.getD 5 undef = u 5 ∧ x.getD 8 undef = .pointer (some ⟨sb,0,none⟩) ∧ x.getD 9 undef = u 9 ∧ x.getD 10 undef = u 10 ∧ x.getD 11 undef = u 11 ∧ x.getD 12 undef = .slice ka kn kc ∧ x.getD 14 undef = .pointer (some ⟨eb,0,none⟩) ∧ x.getD 130 undef = .slice oa on oc ∧ x.getD 131 undef = .int .i64 on ∧ x.getD 132 undef = .int .i64 j9) ∧ j9 ≤ ins.length ∧ Hid (Nz code W0 cb cv w rb nb sb wr (argTo code xs rank k ins j9 c).2 nm sv vi vo vv qv ev rank xs is os vs qs es hi ∧ Ez hi wr eb lv av9 fn ls ∧ MkR rItems TItems B wr av9 (argTo code xs rank k ins j9 c).1 ∧ Kz w.heap.size hi wr (.slice ka kn kc) k ∧ B ≤ wr.heap.size)) (fun a' _ => ins.length - slotN 132 a') ?_ ?_
 ·exact ⟨_,0,.slice none 0 0,rfl,rfl,⟨h0,rfl,rfl,rfl,h8,rfl,rfl,rfl,h12,h14,h130,h131,h132⟩,Nat.zero_le _,p,q,MkR.nil _ _ _ _,hk,hBX⟩
 ·rintro a' wr ⟨x,j9,av9,rfl,hsz,⟨k0,k1,k4,k5,k8,k9,k10,k11,k12,k14,k130,k131,k132⟩,hj,hst⟩
  obtain ⟨hN,hE,hM,hZ,hB⟩:=uh hst
  obtain ⟨_,hal,ha3⟩:=argTo_ok (code:=code) (rank:=rank) (ins:=ins) hv hkk c j9
  rw [slotN_int k132,frN_mk x hsz]
  by_cases hlt : j9 < ins.length
  ·refine arg_round (j:=j9) hZ hkk hk3 hN hwh hl hv hE hM heB hB (by omega) (ho.kept RVar_kept (Kept.of_tr hN.tr)) hlt (by omega) (ha3 _ (hok.less (by omega))) k0 k8 k12 k14 k130 k131 k132 ?_
   intro y Z av2 hy i0 i1 i4 i5 i8 i9 i10 i11 i12 i14 i130 i131 i132 hn2 he2 hm2 hz2 hb2
   refine ⟨⟨y,j9 + 1,av2,rfl,hy,⟨i0,i1.trans k1,i4.trans k4,i5.trans k5,i8,i9.trans k9,i10.trans k10,i11.trans k11,i12,i14,i130,i131,i132⟩,hlt,hn2,he2,hm2,hz2,hb2⟩,?_⟩
   rw [slotN_int i132]
   omega
  ·have e : j9 = ins.length:=by omega
   subst e
   refine arg_exit (on:=on) k131 (by rw [k132,hon]) ?_
   intro y hy i0 i1 i4 i5 i8 i9 i10 i11 i12 i14
   exact HK y wr av9 hy ⟨i0.trans k0,i1.trans k1,i4.trans k4,i5.trans k5,i8.trans k8,i9.trans k9,i10.trans k10,i11.trans k11,i12.trans k12,i14.trans k14⟩ ⟨hN,hE,hM,hZ,hB⟩
theorem items_sd {lo : Nat} {X : World} : ∀ {css : List (Raw 1)} {xs : List (List DItem)} {subs : List (List Nat)},All3 (fun c x s => TItems X c.1 x s) css xs subs → (∀ b,b ∈ subs.flatten → lo ≤ b) → ∀ b,b ∈ subs.flatten → Sd lo X.heap.size X b:=fun h hlo b hb => by
 obtain ⟨s,hs,hbs⟩:=List.mem_flatten.1 hb
 obtain ⟨i,hi,rfl⟩:=List.getElem_of_mem hs
 have hl:=h.len
 obtain ⟨v,_,h1,_,_,h4⟩:=h.get i (by omega) (by omega) hi
 rw [h4] at hbs
 obtain ⟨cur,hc⟩:=h1.cellT (mem_blkOf.1 hbs)
 exact ⟨hlo b hb,cells_lt hc,cur,_,by decide,hc⟩
theorem MkR.rowS {lo B : Nat} {X : World} {v : Value} {xs : List (List DItem)} (h : MkR rItems TItems B X v xs) (hlo : lo ≤ B) (hl : xs.length ≤ 1000) : ∃ bs,RowT rItems TItems X v xs bs ∧ ∀ b,b ∈ bs → Sd lo X.heap.size X b:=by
 obtain ⟨css,subs,h1,h3,h4,h5⟩:=h
 refine ⟨_,⟨css,subs,h1.low (Nat.zero_le _),show css.length * 24 ≤ _ by rw [h3.len.1]; omega,h3,rfl⟩,fun b hb => ?_⟩
 have hb5:=h5 b hb
 rcases List.mem_append.1 hb with hb | hb
 ·obtain ⟨cur,hc⟩:=h1.cellT (mem_blkOf.1 hb)
  exact ⟨by omega,hb5.2,cur,_,by decide,hc⟩
 ·exact items_sd h3 (fun b hb9 => Nat.le_trans hlo (h5 b (List.mem_append_right _ hb9)).1) b hb
set_option maxRecDepth 1000000 in
set_option maxHeartbeats 8000000 in
theorem call3_ok {code : List Int} {W0 : World} {cb : Nat} {cv : Value} {w : World} {rb nb sb : Nat} {X : World} {c : Cur} {nm : ByteArray} {sv vi vo vv qv ev : Value} {rank : Nat} {xs is os vs : List DVar} {qs es : List DEq} {hi : Nat} (p : Nz code W0 cb cv w rb nb sb X c nm sv vi vo vv qv ev rank xs is os vs qs es hi) (hwh : w.heap.size ≤ hi) (hel : es.length ≤ 90)
  {eb B : Nat} {lv av : Value} {fn : ByteArray} {ls : List ByteArray} {ags : List (List DItem)} (q : Ez hi X eb lv av fn ls) (hfn : plainB fn = true) (hls : ∀ s,s ∈ ls → plainB s = true) (hll : ls.length ≤ 90) (m : MkR rItems TItems B X av ags) (hiB : hi ≤ B) (hal : ags.length ≤ 90)
  {u : Nat → Value} (h9 : u 9 = ev) (h14 : u 14 = .pointer (some ⟨eb,0,none⟩)) {K K1 K2 K3 : Act → World → Prop} {PO : Ending → World → Prop}
  (HK : ∀ x Z ev' hi',x.size = 266 → x.getD 0 undef = u 0 → x.getD 1 undef = u 1 → x.getD 4 undef = u 4 → x.getD 5 undef = u 5 → x.getD 8 undef = u 8 → x.getD 10 undef = u 10 → x.getD 11 undef = u 11 → x.getD 9 undef = ev' → Nz code W0 cb cv w rb nb sb Z c nm sv vi vo vv qv ev' rank xs is os vs qs (es ++ [⟨ls,[],fn,ags⟩]) hi' → K2 ⟨x,[]⟩ Z) :
  Code.wp Tryz.prog (rtC 4 (thC (rtC 1 (lfC (rtC 2 (inC (lfC (rtC 1 (inC (inC (rtC 1 (lfC (rtC 8 (Tryz.f21.body.getD .skip)))))))))))))) (Exit.then K3 (Exit.inBlock 3 (Exit.then K2 (Exit.then K (Exit.inBlock 2 (Exit.then K1 (bodyPost Tryz.prog Tryz.f21 PO))))))) (FrN u) X:=by
 obtain ⟨ea,ec,rfl⟩:=p.qz.e.slice
 obtain ⟨la,lc,rfl⟩:=q.rl.slice
 obtain ⟨aa,ac,rfl⟩:=m.slice
 obtain ⟨b3,r1,r2⟩:=m.rowS (lo:=w.heap.size) (by omega) (by omega)
 have h1D : RowD elStr okS X (.slice la ls.length lc) ls (blkOf (.slice la ls.length lc)):=⟨q.rl.low (Nat.zero_le _),fun x hx9 => plain_len (hls x hx9),show ls.length * 16 ≤ _ by omega,rfl⟩
 obtain ⟨a',n',c',Z,HR,HN,hn,HF⟩:=(p.up p.hl (Nat.le_refl _)).pushE (x:=⟨ls,[],fn,ags⟩) (bs:=blkOf (.slice la ls.length lc) ++ [] ++ b3) (a1:=la) (n1:=ls.length) (c1:=lc) (a2:=none) (n2:=0) (c2:=0) (s:=fn) (a3:=aa) (n3:=ags.length) (c3:=ac) ⟨_,_,_,_,_,_,rfl,plain_len hfn,h1D,rowD_nil X,r1,rfl⟩ (fun b hb => by
  rw [List.append_nil] at hb
  rcases List.mem_append.1 hb with hb | hb
  ·exact own_sd q.rl hwh (by decide) b hb
  ·exact r2 b hb) (by omega)
 clear hn
 have e0:=q.box.cell (i:=0) (v:=.slice la ls.length lc) rfl
 have e1:=q.box.cell (i:=1) (v:=.slice none 0 0) rfl
 have e2:=q.box.cell (i:=2) (v:=.string fn) rfl
 have e3:=q.box.cell (i:=3) (v:=.slice aa ags.length ac) rfl
 have HKK:=hide HK
 clear HK p q m r1 r2 h1D HF
 unfold FrN
 rw [h9,h14]
 clear h9 h14
 conv => arg 2; whnf
 go_wp2_with (at_builtin; go_must (refine wpList_append_run rfl _ _ 41 41 rfl rfl _ _ _ rfl rfl (uh HR) ?_))
 exact uh HKK _ _ _ _ rfl rfl rfl rfl rfl rfl rfl rfl rfl (uh HN)
set_option maxRecDepth 1000000 in
set_option maxHeartbeats 8000000 in
theorem call2_ok {code : List Int} {W0 : World} {cb : Nat} {cv : Value} {w : World} {rb nb sb : Nat} {X : World} {c : Cur} {nm : ByteArray} {sv vi vo vv qv ev : Value} {rank : Nat} {xs is os vs : List DVar} {qs es : List DEq} {hi : Nat} {k : List DCond} {ka : Option Addr} {kn kc : Nat} (hk : Kz w.heap.size hi X (.slice ka kn kc) k) (hkk : kOK k) (hk3 : k.length ≤ 3) (p : Nz code W0 cb cv w rb nb sb X c nm sv vi vo vv qv ev rank xs is os vs qs es hi) (hwh : w.heap.size ≤ hi) (hel : es.length ≤ 90) (hl : xs.length ≤ 100) (hv : vsOK xs)
  {eb fb : Nat} {lv : Value} {fn : ByteArray} {ls : List ByteArray} (q : Ez hi X eb lv (.slice none 0 0) fn ls) (hfn : plainB fn = true) (hls : ∀ s,s ∈ ls → plainB s = true) (hll : ls.length ≤ 90)
  {ins : List DVar} {oa : Option Addr} {oc : Nat} (ho : SlAt 3 48 RVar (cb + 1) w (.slice oa ins.length oc) ins) (hoc : ins.length ≤ 3) (hok : okB 1449 c) {fc : Array Value} (hfb : BlkAt X fb 43 fc) (hf1 : fc[1]? = some (.slice oa ins.length oc))
  {u : Nat → Value} (h0 : u 0 = .pointer (some ⟨cb,0,none⟩)) (h8 : u 8 = .pointer (some ⟨sb,0,none⟩)) (h12 : u 12 = .slice ka kn kc) (h13 : u 13 = .pointer (some ⟨fb,0,none⟩)) (h14 : u 14 = .pointer (some ⟨eb,0,none⟩)) (h9 : u 9 = ev) {K K1 K2 K3 : Act → World → Prop} {PO : Ending → World → Prop}
  (HK : ∀ x Z ev' hi',x.size = 266 → x.getD 0 undef = u 0 → x.getD 1 undef = u 1 → x.getD 4 undef = u 4 → x.getD 5 undef = u 5 → x.getD 8 undef = u 8 → x.getD 10 undef = u 10 → x.getD 11 undef = u 11 → x.getD 9 undef = ev' → Nz code W0 cb cv w rb nb sb Z (argTo code xs rank k ins ins.length c).2 nm sv vi vo vv qv ev' rank xs is os vs qs (es ++ [⟨ls,[],fn,(argTo code xs rank k ins ins.length c).1⟩]) hi' → K2 ⟨x,[]⟩ Z) :
  Code.wp Tryz.prog (rtC 3 (thC (rtC 1 (lfC (rtC 2 (inC (lfC (rtC 1 (inC (inC (rtC 1 (lfC (rtC 8 (Tryz.f21.body.getD .skip)))))))))))))) (Exit.then K3 (Exit.inBlock 3 (Exit.then K2 (Exit.then K (Exit.inBlock 2 (Exit.then K1 (bodyPost Tryz.prog Tryz.f21 PO))))))) (FrN u) X:=by
 have f1:=hfb.cell (i:=1) hf1
 have HKK:=hide HK
 have HU:=hide (And.intro h0 (And.intro h8 h9))
 have hal:=(argTo_ok (code:=code) (rank:=rank) (ins:=ins) hv hkk c ins.length).2.1
 clear HK h9
 unfold FrN
 rw [h0,h8,h12,h13,h14]
 clear h0 h8 h12 h13 h14
 conv => arg 2; whnf
 go_wp2_with fail
 rename_i K6 HK6
 rw [frN_mk _ rfl]
 refine arg_loop hk hkk hk3 p hwh hl hv q q.box.lt (Nat.le_refl _) ho hoc hok rfl rfl rfl rfl rfl rfl rfl ?_
 intro x Z av9 hsz ⟨k0,k1,k4,k5,k8,k9,k10,k11,k12,k14⟩ hst
 obtain ⟨hN,hE,hM,hZ,hB⟩:=uh hst
 refine HK6 _ _ ?_
 rw [frN_mk x hsz]
 refine call3_ok (u:=fun i => x.getD i undef) hN hwh hel hE hfn hls hll hM (Nat.le_trans p.hl (Nat.le_refl _)) (by omega) (k9.trans (uh HU).2.2) k14 ?_
 intro y W ev' hi' hy j0 j1 j4 j5 j8 j10 j11 j9 hn
 exact uh HKK y W ev' hi' hy (j0.trans (k0.trans (uh HU).1.symm)) (j1.trans k1) (j4.trans k4) (j5.trans k5) (j8.trans (k8.trans (uh HU).2.1.symm)) (j10.trans k10) (j11.trans k11) j9 hn
set_option maxRecDepth 1000000 in
set_option maxHeartbeats 8000000 in
theorem call_ok' {code : List Int} {W0 : World} {cb : Nat} {cv : Value} {w : World} {rb nb sb : Nat} {X : World} {c : Cur} {nm : ByteArray} {sv vi vo vv qv ev : Value} {rank : Nat} {xs is os vs : List DVar} {qs es : List DEq} {hi : Nat} {k : List DCond} {ka : Option Addr} {kn kc : Nat} (hk : Kz w.heap.size hi X (.slice ka kn kc) k) (hkk : kOK k) (hk3 : k.length ≤ 3) (p : Nz code W0 cb cv w rb nb sb X c nm sv vi vo vv qv ev xs.length xs is os vs qs es hi) (hwh : w.heap.size ≤ hi) (hel : es.length ≤ 80) (hl : xs.length ≤ 80) (hvl : vs.length ≤ 80) (hv : vsOK xs)
  {before : List DNode} {ba : Option Addr} {bc : Nat} (hbf : SlAt 5 112 RNode (cb + 1) w (.slice ba before.length bc) before) (hbl : 0 < before.length) (hbn : before.length ≤ 3) (hbo : ∀ n,n ∈ before → okDN n) (hok : okB 1450 c)
  {u : Nat → Value} (h0 : u 0 = .pointer (some ⟨cb,0,none⟩)) (h1 : u 1 = .slice ba before.length bc) (h5 : u 5 = .pointer (some ⟨nb,0,none⟩)) (h8 : u 8 = .pointer (some ⟨sb,0,none⟩)) (h12 : u 12 = .slice ka kn kc) (h82 : u 82 = .bool true) (h9 : u 9 = ev) {K K1 K2 K3 : Act → World → Prop} {PO : Ending → World → Prop}
  (HK : ∀ x Z sv' vv' ev' hi',x.size = 266 → x.getD 0 undef = .pointer (some ⟨cb,0,none⟩) → x.getD 1 undef = u 1 → x.getD 4 undef = u 4 → x.getD 5 undef = .pointer (some ⟨nb,0,none⟩) → x.getD 8 undef = .pointer (some ⟨sb,0,none⟩) → x.getD 10 undef = u 10 → x.getD 11 undef = u 11 → x.getD 9 undef = ev' → Nz code W0 cb cv w rb nb sb Z (grCall code ⟨xs,vs,es,c⟩ k (before.getD (pkF code before.length c).1 dN) (pkF code before.length c).2).c nm sv' vi vo vv' qv ev' xs.length (grCall code ⟨xs,vs,es,c⟩ k (before.getD (pkF code before.length c).1 dN) (pkF code before.length c).2).sv is os (grCall code ⟨xs,vs,es,c⟩ k (before.getD (pkF code before.length c).1 dN) (pkF code before.length c).2).vs qs (grCall code ⟨xs,vs,es,c⟩ k (before.getD (pkF code before.length c).1 dN) (pkF code before.length c).2).eqs hi' → K2 ⟨x,[]⟩ Z) :
  Code.wp Tryz.prog (rtC 1 (lfC (rtC 2 (inC (lfC (rtC 1 (inC (inC (rtC 1 (lfC (rtC 8 (Tryz.f21.body.getD .skip)))))))))))) (Exit.then K3 (Exit.inBlock 3 (Exit.then K2 (Exit.then K (Exit.inBlock 2 (Exit.then K1 (bodyPost Tryz.prog Tryz.f21 PO))))))) (FrN u) X:=by
 have HP:=hide (pick_ok p.cu before.length (by omega) (hok.less (by omega)))
 have hlt:=pkF_lt code (m:=before.length) c hbl
 have HOK : Hid (okB 1449 (pkF code before.length c).2):=pkF_ok hok
 have HKK:=hide HK
 have HN:=hide p
 have HKZ:=hide hk
 have HU9:=hide h9
 have HU1:=hide h1
 clear HK p hk hok h9
 generalize pkF code before.length c = Q at *
 obtain ⟨pq,c1⟩:=Q
 replace HP : Hid (Calls Tryz.prog 9 #[.pointer (some ⟨cb,0,none⟩),.int .i64 before.length] X (CuAns code W0 cb cv X (.int .i64 pq) c1)):=HP
 replace hlt : pq < before.length:=hlt
 replace HOK : Hid (okB 1449 c1):=HOK
 have eD : before.getD pq dN = before[pq]:=by rw [List.getD_eq_getElem?_getD,List.getElem?_eq_getElem hlt]; rfl
 replace HKK : Hid (∀ x Z sv' vv' ev' hi',x.size = 266 → x.getD 0 undef = .pointer (some ⟨cb,0,none⟩) → x.getD 1 undef = u 1 → x.getD 4 undef = u 4 → x.getD 5 undef = .pointer (some ⟨nb,0,none⟩) → x.getD 8 undef = .pointer (some ⟨sb,0,none⟩) → x.getD 10 undef = u 10 → x.getD 11 undef = u 11 → x.getD 9 undef = ev' → Nz code W0 cb cv w rb nb sb Z (grCall code ⟨xs,vs,es,c⟩ k (before.getD pq dN) c1).c nm sv' vi vo vv' qv ev' xs.length (grCall code ⟨xs,vs,es,c⟩ k (before.getD pq dN) c1).sv is os (grCall code ⟨xs,vs,es,c⟩ k (before.getD pq dN) c1).vs qs (grCall code ⟨xs,vs,es,c⟩ k (before.getD pq dN) c1).eqs hi' → K2 ⟨x,[]⟩ Z):=HKK
 rw [eD] at HKK
 have hqI : (pq : Int) < (before.length : Int):=by omega
 obtain ⟨a9,c9,he9,hcp,hq9,hx⟩:=hbf
 simp only [Value.slice.injEq] at he9
 obtain ⟨rfl,hon,rfl⟩:=he9
 obtain ⟨b,o,cs,rfl,hlb,hb,hcs,hc,hR⟩:=hx pq hlt
 have hfo:=hbo _ (List.getElem_mem hlt)
 obtain ⟨vi9,vo9,vv9,ve9,rfl,hn1,hi1,ho1,hv1,he1⟩:=hR
 generalize before[pq] = f at *
 obtain ⟨fn,fin,fout,fvar,feq⟩:=f
 have hpt:=hfo.parts
 have hf2:=hfo.2
 simp only at hi1 ho1 hv1 he1 hn1
 obtain ⟨ia,ic,rfl⟩:=hi1.shape
 obtain ⟨oa,oc,rfl⟩:=ho1.shape
 obtain ⟨va9,vc9,rfl⟩:=hv1.shape
 obtain ⟨ea9,ec9,rfl⟩:=he1.shape
 have HC : Hid (∀ Y,Tr cb w Y → ∀ j (hj : j < 5),Y.cell? ⟨b,o + pq * 5 + j,none⟩ = some ([Value.string fn,.slice ia fin.length ic,.slice oa fout.length oc,.slice va9 fvar.length vc9,.slice ea9 feq.length ec9][j]'(by simpa using hj))):=hide (fun Y hY j hj => (World.cell?_of_block (hY.block b hb (by omega))).trans (hc j (by simpa using hj)))
 have HLI:=hide (And.intro hi1 ho1)
 have hp0 : plainB fn = true:=hpt.1
 have HVO : Hid (vsOK fout ∧ (∀ v ∈ fin,okP v) ∧ fin.length ≤ 3 ∧ fout.length ≤ 2):=⟨fun v hv => (hpt.2.2.1 v hv).1,hpt.2.1,hf2.1,hf2.2⟩
 clear hc hcs hx hcp hq9 hi1 ho1 hv1 he1 eD hfo hpt hf2 hbo hn1 hon
 unfold FrN
 rw [h0,h1,h5,h8,h12,h82]
 clear h0 h1 h5 h8 h12 h82
 conv => arg 2; whnf
 go_wp2_with fail
 refine (uh HP).mono ?_
 rintro e X1 ⟨rfl,hc1,ht1⟩
 have p1:=(uh HN).go hc1 ht1
 have k1:=(uh HKZ).kp (KpH.ofTr ht1 (uh HN).cu.blk (Nat.le_refl _)) (Or.inl (by decide))
 have r0:=uh HC X1 p1.tr 0 (by omega)
 have r1:=uh HC X1 p1.tr 1 (by omega)
 have r2:=uh HC X1 p1.tr 2 (by omega)
 have r3:=uh HC X1 p1.tr 3 (by omega)
 have r4:=uh HC X1 p1.tr 4 (by omega)
 simp only [Nat.add_zero,List.getElem_cons_zero,List.getElem_cons_succ] at r0 r1 r2 r3 r4
 obtain ⟨X2,hX2⟩ : ∃ X2,X2 = X1.alloc (.cells #[.string fn,.slice ia fin.length ic,.slice oa fout.length oc,.slice va9 fvar.length vc9,.slice ea9 feq.length ec9] 43):=⟨_,rfl⟩
 have hA2 : Below X1.heap.size X1 X2:=hX2 ▸ (Below.refl _ _).alloc (Nat.le_refl _) _
 have hfb2 : BlkAt X2 X1.heap.size 43 #[.string fn,.slice ia fin.length ic,.slice oa fout.length oc,.slice va9 fvar.length vc9,.slice ea9 feq.length ec9]:=hX2 ▸ blk_box X1 _ _
 have hz2 : X2.heap.size = X1.heap.size + 1:=by rw [hX2]; simp
 obtain ⟨X3,hX3⟩ : ∃ X3,X3 = X2.alloc (.cells #[.slice none 0 0,.slice none 0 0,.string fn,.slice none 0 0] 58):=⟨_,rfl⟩
 have hA3 : Below X2.heap.size X2 X3:=hX3 ▸ (Below.refl _ _).alloc (Nat.le_refl _) _
 have heb3 : BlkAt X3 X2.heap.size 58 #[.slice none 0 0,.slice none 0 0,.string fn,.slice none 0 0]:=hX3 ▸ blk_box X2 _ _
 rw [hz2] at heb3
 have hfb3:=hfb2.below hA3 (by omega)
 have p3:=(p1.below hA2).below hA3
 have k3:=(k1.kp (KpH.below 1000000 X1.heap.size hA2) (Or.inr p1.hl)).kp (KpH.below 1000000 X2.heap.size hA3) (Or.inr (p1.below hA2).hl)
 have hne : X1.heap.size ≠ nb:=by have:=p1.nbx.lt; omega
 have hhi : hi ≤ X1.heap.size + 1:=by have:=p1.hl; omega
 have s0:=hfb2.cell (i:=0) (v:=.string fn) rfl
 have s2:=hfb3.cell (i:=2) (v:=.slice oa fout.length oc) rfl
 rw [hX2] at s0
 rw [hX3,hX2] at s2
 have HXX:=hide (And.intro hX2 hX3)
 have HST:=hide (And.intro p3 (And.intro k3 (And.intro hfb3 heb3)))
 clear hc1 ht1 p1 k1 HN HKZ HP hX2 hX3 hA2 hA3 hfb2 heb3 hfb3 p3 k3 HC hz2
 go_wp2_with fail
 rename_i K6 HK6
 rw [← (uh HXX).1,← (uh HXX).2]
 obtain ⟨p3,k3,hfb3,heb3⟩:=uh HST
 obtain ⟨hvo,hvi,hfi,hfo⟩:=uh HVO
 rw [frN_mk _ rfl]
 refine nv_loop k3 hkk hk3 p3 hwh hl hvl ⟨heb3,hhi,OwnV.nil _ _⟩ hfb3 hne (uh HLI).2 hvo (by omega) rfl rfl rfl rfl rfl rfl rfl rfl ?_
 intro x Z sv9 vv9 lv9 hsz ⟨i0,i1,i4,i5,i8,i9,i10,i11,i12,i13,i14⟩ hst
 obtain ⟨hN,hE,hF,hZ⟩:=uh hst
 refine HK6 _ _ ?_
 rw [frN_mk x hsz]
 have hnv:=nvTo_ok (n:=xs.length) hvo hkk hk3 fout.length (Nat.le_refl _) (by omega)
 have hnl:=nvTo_len xs.length fout k fout.length
 refine call2_ok (u:=fun i => x.getD i undef) hZ hkk hk3 hN hwh (by omega) (by rw [List.length_append,hnl]; omega) (hv.app hnv) hE hp0 (fun s hs => ?_) (by rw [List.length_map,hnl]; omega) (uh HLI).1 hfi (uh HOK) hF rfl i0 i8 i12 i13 i14 (i9.trans (uh HU9)) ?_
 ·obtain ⟨v,hv9,rfl⟩:=List.mem_map.1 hs
  exact (hnv v hv9).1
 ·intro y W ev' hi' hy j0 j1 j4 j5 j8 j10 j11 j9 hn
  exact uh HKK y W sv9 vv9 ev' hi' hy (j0.trans i0) (j1.trans (i1.trans (uh HU1).symm)) (j4.trans i4) (j5.trans i5) (j8.trans i8) (j10.trans i10) (j11.trans i11) j9 hn
set_option maxRecDepth 1000000 in
theorem inc2 {u : Nat → Value} {j : Nat} (hj : j < 1000) {Z : World} (h11 : u 11 = .int .i64 j) {K K1 : Act → World → Prop} {PO : Ending → World → Prop} (HK : ∀ x : Array Value,x.size = 266 → x.getD 0 undef = u 0 → x.getD 1 undef = u 1 → x.getD 4 undef = u 4 → x.getD 5 undef = u 5 → x.getD 8 undef = u 8 → x.getD 9 undef = u 9 → x.getD 10 undef = u 10 → x.getD 11 undef = .int .i64 ((j : Int) + 1) → K ⟨x,[]⟩ Z) : Code.wp Tryz.prog (rtC 2 (inC (inC (rtC 1 (lfC (rtC 8 (Tryz.f21.body.getD .skip))))))) (Exit.then K (Exit.inBlock 2 (Exit.then K1 (bodyPost Tryz.prog Tryz.f21 PO)))) (FrN u) Z:=by
 have hw1 : IntKind.i64.wrap ((j : Int) + 1) = (j : Int) + 1:=by rw [IntKind.wrap_i64]; omega
 have HKK:=hide HK
 clear HK
 unfold FrN
 rw [h11]
 conv => arg 2; whnf
 go_wp2
 exact uh HKK _ rfl rfl rfl rfl rfl rfl rfl rfl rfl
set_option maxRecDepth 1000000 in
theorem own_cond {code : List Int} {W0 : World} {cb : Nat} {cv : Value} {w : World} {rb nb sb : Nat} {X : World} {c : Cur} {nm : ByteArray} {sv vi vo vv qv ev : Value} {rank : Nat} {xs is os vs : List DVar} {qs es : List DEq} {hi : Nat} {k : List DCond} {ka : Option Addr} {kn kc : Nat} (hk : Kz w.heap.size hi X (.slice ka kn kc) k) (hkk : kOK k) (hk3 : k.length ≤ 3) (p : Nz code W0 cb cv w rb nb sb X c nm sv vi vo vv (.slice none 0 0) ev xs.length xs is os vs [] es hi) (hl : xs.length ≤ 90) (hvl : vs.length ≤ 90) (hel : es.length ≤ 90) (hv : vsOK xs) (hok : okB 4372 c)
  {u : Nat → Value} (h0 : u 0 = .pointer (some ⟨cb,0,none⟩)) (h5 : u 5 = .pointer (some ⟨nb,0,none⟩)) (h8 : u 8 = .pointer (some ⟨sb,0,none⟩)) (h9 : u 9 = ev) (h12 : u 12 = .slice ka kn kc) (h82 : u 82 = .bool false) {K K1 K2 K3 : Act → World → Prop} {PO : Ending → World → Prop} (H3 : ∀ a w,Code.wp Tryz.prog (rtC 3 (inC (lfC (rtC 1 (inC (inC (rtC 1 (lfC (rtC 8 (Tryz.f21.body.getD .skip)))))))))) (Exit.inBlock 3 (Exit.then K2 (Exit.then K (Exit.inBlock 2 (Exit.then K1 (bodyPost Tryz.prog Tryz.f21 PO)))))) a w → K3 a w)
  (HK : ∀ x Z sv' vv' ev' hi',x.size = 266 → x.getD 0 undef = .pointer (some ⟨cb,0,none⟩) → x.getD 1 undef = u 1 → x.getD 4 undef = u 4 → x.getD 5 undef = .pointer (some ⟨nb,0,none⟩) → x.getD 8 undef = .pointer (some ⟨sb,0,none⟩) → x.getD 10 undef = u 10 → x.getD 11 undef = u 11 → x.getD 9 undef = ev' → Nz code W0 cb cv w rb nb sb Z (grOwn code ⟨xs,vs,es,c⟩ k c).c nm sv' vi vo vv' (.slice none 0 0) ev' xs.length (grOwn code ⟨xs,vs,es,c⟩ k c).sv is os (grOwn code ⟨xs,vs,es,c⟩ k c).vs [] (grOwn code ⟨xs,vs,es,c⟩ k c).eqs hi' → K2 ⟨x,[]⟩ Z) :
  Code.wp Tryz.prog (rtC 1 (lfC (rtC 2 (inC (lfC (rtC 1 (inC (inC (rtC 1 (lfC (rtC 8 (Tryz.f21.body.getD .skip)))))))))))) (Exit.then K3 (Exit.inBlock 3 (Exit.then K2 (Exit.then K (Exit.inBlock 2 (Exit.then K1 (bodyPost Tryz.prog Tryz.f21 PO))))))) (FrN u) X:=by
 have HO:=hide (own_ok (u:=u) (qv:=qv) (rank:=rank) (qs:=qs) (K:=K) (K1:=K1) (PO:=PO) hk hkk hk3 p hl hvl hel hv hok h0 h5 h8 h9 h12 HK)
 have H33:=hide H3
 have HU:=hide (And.intro h0 (And.intro h5 (And.intro h8 (And.intro h9 (And.intro h12 h82)))))
 clear hk p HK H3 h0 h5 h8 h9 h12
 unfold FrN
 rw [h82]
 conv => arg 2; whnf
 clear h82
 go_wp2
 refine uh H33 _ _ ?_
 rw [← (uh HU).2.2.2.2.2]
 exact uh HO
set_option maxRecDepth 1000000 in
set_option maxHeartbeats 8000000 in
theorem grp_round {code : List Int} {W0 : World} {cb : Nat} {cv : Value} {w : World} {rb nb sb : Nat} {X : World} {c : Cur} {nm : ByteArray} {sv vi vo vv qv ev : Value} {rank : Nat} {xs is os vs : List DVar} {qs es : List DEq} {hi : Nat} (p : Nz code W0 cb cv w rb nb sb X c nm sv vi vo vv (.slice none 0 0) ev rank xs is os vs [] es hi) (hl : xs.length ≤ 80) (hvl : vs.length ≤ 80) (hel : es.length ≤ 80) (hv : vsOK xs)
  {before : List DNode} {ba : Option Addr} {bc : Nat} (hbf : SlAt 5 112 RNode (cb + 1) w (.slice ba before.length bc) before) (hbn : before.length ≤ 3) (hbo : ∀ n,n ∈ before → okDN n) (hok : okB 4376 c) {g n : Nat} (hg : g < n) (hn : n ≤ 100)
  {u : Nat → Value} (h0 : u 0 = .pointer (some ⟨cb,0,none⟩)) (h1 : u 1 = .slice ba before.length bc) (h5 : u 5 = .pointer (some ⟨nb,0,none⟩)) (h8 : u 8 = .pointer (some ⟨sb,0,none⟩)) (h9 : u 9 = ev) (h10 : u 10 = .int .i64 n) (h11 : u 11 = .int .i64 g) {K K1 : Act → World → Prop} {PO : Ending → World → Prop}
  (HK : ∀ x Z sv' vv' ev' rk hi',x.size = 266 → x.getD 0 undef = .pointer (some ⟨cb,0,none⟩) ∧ x.getD 1 undef = .slice ba before.length bc ∧ x.getD 4 undef = u 4 ∧ x.getD 5 undef = .pointer (some ⟨nb,0,none⟩) ∧ x.getD 8 undef = .pointer (some ⟨sb,0,none⟩) ∧ x.getD 9 undef = ev' ∧ x.getD 10 undef = .int .i64 n ∧ x.getD 11 undef = .int .i64 ((g : Int) + 1) → Nz code W0 cb cv w rb nb sb Z (grF code before ⟨xs,vs,es,c⟩).c nm sv' vi vo vv' (.slice none 0 0) ev' rk (grF code before ⟨xs,vs,es,c⟩).sv is os (grF code before ⟨xs,vs,es,c⟩).vs [] (grF code before ⟨xs,vs,es,c⟩).eqs hi' → K ⟨x,[]⟩ Z) :
  Code.wp Tryz.prog (inC (inC (rtC 1 (lfC (rtC 8 (Tryz.f21.body.getD .skip)))))) (Exit.then K (Exit.inBlock 2 (Exit.then K1 (bodyPost Tryz.prog Tryz.f21 PO)))) (FrN u) X:=by
 obtain ⟨sa,sc,rfl⟩:=p.vz.s.slice
 obtain ⟨kk1,kk3,kok⟩:=clF_ok (code:=code) hv c
 have HCL:=hide (clock_ok p.cu (p.vars (by omega)) (by omega) hv (hok.less (by omega)))
 have HOK : Hid (okB 4373 (clF code xs c).2):=kok _ hok
 have HG1 : Hid (0 < before.length → (pkF code 5 (clF code xs c).2).1 ≤ 1 → grF code before ⟨xs,vs,es,c⟩ = grCall code ⟨xs,vs,es,c⟩ (clF code xs c).1 (before.getD (pkF code before.length (pkF code 5 (clF code xs c).2).2).1 dN) (pkF code before.length (pkF code 5 (clF code xs c).2).2).2):=hide (fun h1 h2 => by unfold grF; rw [if_pos ⟨h1,h2⟩])
 have HG2 : Hid (0 < before.length → ¬ (pkF code 5 (clF code xs c).2).1 ≤ 1 → grF code before ⟨xs,vs,es,c⟩ = grOwn code ⟨xs,vs,es,c⟩ (clF code xs c).1 (pkF code 5 (clF code xs c).2).2):=hide (fun h1 h2 => by unfold grF; rw [if_neg (fun h => h2 h.2),if_pos h1])
 have HG3 : Hid (¬ 0 < before.length → grF code before ⟨xs,vs,es,c⟩ = grOwn code ⟨xs,vs,es,c⟩ (clF code xs c).1 (clF code xs c).2):=hide (fun h1 => by unfold grF; rw [if_neg (fun h => h1 h.1),if_neg h1])
 generalize clF code xs c = Q at *
 obtain ⟨k,c1⟩:=Q
 replace HCL : Hid (Calls Tryz.prog 31 #[.pointer (some ⟨cb,0,none⟩),.slice sa xs.length sc] X (ClAns code W0 cb cv X (k,c1))):=HCL
 replace HOK : Hid (okB 4373 c1):=HOK
 replace kk1 : kOK k:=kk1
 replace kk3 : k.length ≤ 3:=kk3
 have hgI : (g : Int) < (n : Int):=by omega
 have y0:=p.sbx.cell (i:=0) (v:=.slice sa xs.length sc) rfl
 have HN:=hide p
 have HKK:=hide HK
 clear HK p kok hok
 unfold FrN
 rw [h0,h1,h5,h8,h9,h10,h11]
 clear h0 h1 h5 h8 h9 h10 h11
 conv => arg 2; whnf
 go_wp2_with fail
 refine (uh HCL).mono ?_
 rintro e X1 ⟨ka,kn,kc,rfl,hown,hkn,hc1,ht1⟩
 rename_i K2 HA14 K9 H9 K8 H8
 have H14:=hide HA14
 have p1:=((uh HN).go hc1 ht1).up (hi':=X1.heap.size) (Nat.le_trans (uh HN).hl ht1.size) (Nat.le_refl _)
 have hwX:=(uh HN).tr.size
 have k1 : Kz w.heap.size X1.heap.size X1 (.slice ka kn kc) k:=⟨⟨hown.low (Nat.zero_le _),fun x hx => plain_len (kk1 x hx),show k.length * 24 ≤ _ by omega,rfl⟩,own_sd hown hwX (by decide)⟩
 have p2:=p1.setRk xs.length
 have k2:=k1.kp (KpH.set (h:=w.heap.size) p1.sbx p1.sbl 1 (.int .i64 xs.length)) (Or.inl (by decide))
 have z0:=p1.sbx.cell (i:=0) (v:=.slice sa xs.length sc) rfl
 have z1:=p1.sbx.cell (i:=1) (v:=.int .i64 rank) rfl
 have z2:=p1.sbx.free 1
 have z3:=p1.sbx.lt
 have HWH : Hid (w.heap.size ≤ X1.heap.size):=p1.tr.size
 have HP2:=hide (And.intro p2 k2)
 have HP5 : Hid (Calls Tryz.prog 9 #[.pointer (some ⟨cb,0,none⟩),.int .i64 5] (X1.setCell ⟨sb,1,none⟩ (.int .i64 xs.length)) (CuAns code W0 cb cv (X1.setCell ⟨sb,1,none⟩ (.int .i64 xs.length)) (.int .i64 (pkF code 5 c1).1) (pkF code 5 c1).2)):=hide (pick_ok p2.cu 5 (by omega) ((uh HOK).less (by omega)))
 clear hc1 ht1 hown hkn p1 p2 k1 k2 HN HCL hwX
 by_cases hb0 : 0 < before.length
 ·have dB : decide (0 < (before.length : Int)) = true:=decide_eq_true (by omega)
  have dB2 : 0 < before.length:=hb0
  go_wp2_with fail
  refine (uh HP5).mono ?_
  rintro e X3 ⟨rfl,hc3,ht3⟩
  have p3:=(uh HP2).1.go hc3 ht3
  have k3:=(uh HP2).2.kp (KpH.ofTr ht3 (uh HP2).1.cu.blk (Nat.le_refl _)) (Or.inl (by decide))
  have HOK5 : Hid (okB 4372 (pkF code 5 c1).2):=pkF_ok (uh HOK)
  have HST:=hide (And.intro p3 k3)
  replace HG1:=uh HG1 hb0
  replace HG2:=uh HG2 hb0
  clear hc3 ht3 p3 k3 HP5 HP2 z0 z1 z2 z3
  change (pkF code 5 c1).1 ≤ 1 → _ = grCall code ⟨xs,vs,es,c⟩ k (before.getD (pkF code before.length (pkF code 5 c1).2).1 dN) (pkF code before.length (pkF code 5 c1).2).2 at HG1
  change ¬ (pkF code 5 c1).1 ≤ 1 → _ = grOwn code ⟨xs,vs,es,c⟩ k (pkF code 5 c1).2 at HG2
  generalize pkF code 5 c1 = Q5 at *
  obtain ⟨p5,c5⟩:=Q5
  replace HG1 : Hid (p5 ≤ 1 → grF code before ⟨xs,vs,es,c⟩ = grCall code ⟨xs,vs,es,c⟩ k (before.getD (pkF code before.length c5).1 dN) (pkF code before.length c5).2):=hide HG1
  replace HG2 : Hid (¬ p5 ≤ 1 → grF code before ⟨xs,vs,es,c⟩ = grOwn code ⟨xs,vs,es,c⟩ k c5):=hide HG2
  by_cases h5 : p5 ≤ 1
  ·have d5 : decide ((p5 : Int) ≤ 1) = true:=by simp; omega
   have EQF:=hide (uh HG1 h5)
   have HI5:=hide h5
   clear h5 HG1 HG2 HG3
   go_upto_if 82 with (fail)
   rw [frN_mk _ rfl]
   refine call_ok' (rank:=rank) (uh HST).2 kk1 kk3 (uh HST).1 (uh HWH) hel hl hvl hv hbf hb0 hbn hbo ((uh HOK5).less (by omega)) rfl rfl rfl rfl rfl rfl rfl ?_
   intro x Z sv' vv' ev' hi' hsz i0 i1 i4 i5 i8 i10 i11 i9 hn
   refine uh H14 _ _ ?_
   rw [frN_mk x hsz]
   refine inc2 (u:=fun i => x.getD i undef) (j:=g) (by omega) i11 ?_
   intro y hy j0 j1 j4 j5 j8 j9 j10 j11
   refine uh HKK y Z sv' vv' ev' xs.length hi' hy ⟨j0.trans i0,j1.trans i1,j4.trans i4,j5.trans i5,j8.trans i8,j9.trans i9,j10.trans i10,j11⟩ ?_
   rw [uh EQF]
   exact hn
  ·have d5 : decide ((p5 : Int) ≤ 1) = false:=by simp; omega
   have EQF:=hide (uh HG2 h5)
   clear HG1 HG2 HG3
   go_upto_if 82 with (fail)
   rw [frN_mk _ rfl]
   refine own_cond (rank:=rank) (qv:=qv) (qs:=qs) (uh HST).2 kk1 kk3 (uh HST).1 (by omega) (by omega) (by omega) hv (uh HOK5) rfl rfl rfl rfl rfl rfl ‹_› ?_
   intro x Z sv' vv' ev' hi' hsz i0 i1 i4 i5 i8 i10 i11 i9 hn
   refine uh H14 _ _ ?_
   rw [frN_mk x hsz]
   refine inc2 (u:=fun i => x.getD i undef) (j:=g) (by omega) i11 ?_
   intro y hy j0 j1 j4 j5 j8 j9 j10 j11
   refine uh HKK y Z sv' vv' ev' xs.length hi' hy ⟨j0.trans i0,j1.trans i1,j4.trans i4,j5.trans i5,j8.trans i8,j9.trans i9,j10.trans i10,j11⟩ ?_
   rw [uh EQF]
   exact hn
 ·have dB : decide (0 < (before.length : Int)) = false:=decide_eq_false (by omega)
  have EQF:=hide (uh HG3 hb0)
  obtain ⟨p2,k2⟩:=uh HP2
  have HST:=hide (And.intro p2 k2)
  clear HG1 HG2 HG3 HP5 p2 k2 HP2
  go_upto_if 82 with (fail)
  rw [frN_mk _ rfl]
  refine own_cond (rank:=rank) (qv:=qv) (qs:=qs) (uh HST).2 kk1 kk3 (uh HST).1 (by omega) (by omega) (by omega) hv ((uh HOK).less (by omega)) rfl rfl rfl rfl rfl rfl ‹_› ?_
  intro x Z sv' vv' ev' hi' hsz i0 i1 i4 i5 i8 i10 i11 i9 hn
  refine uh H14 _ _ ?_
  rw [frN_mk x hsz]
  refine inc2 (u:=fun i => x.getD i undef) (j:=g) (by omega) i11 ?_
  intro y hy j0 j1 j4 j5 j8 j9 j10 j11
  refine uh HKK y Z sv' vv' ev' xs.length hi' hy ⟨j0.trans i0,j1.trans i1,j4.trans i4,j5.trans i5,j8.trans i8,j9.trans i9,j10.trans i10,j11⟩ ?_
  rw [uh EQF]
  exact hn
end Go.Proofs.YtajabbnlbopcbaaGreatDoor
