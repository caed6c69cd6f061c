import Derived.Test.YtajabbnlbopcbaaGreatDoorVN8
import Derived.Test.YtajabbnlbopcbaaGreatDoorVN2
namespace Go.Proofs.YtajabbnlbopcbaaGreatDoor
open Go.RowKit
set_option linter.unusedSimpArgs false
set_option linter.unusedVariables false
set_option maxRecDepth 1000000 in
theorem grp_exit {u : Nat → Value} {n : Nat} {Z : World} (h10 : u 10 = .int .i64 n) (h11 : u 11 = .int .i64 n) {K K1 : Act → World → Prop} {PO : Ending → World → Prop} (HK : ∀ x : Array Value,x.size = 266 → x.getD 0 undef = u 0 → x.getD 1 undef = u 1 → x.getD 4 undef = u 4 → x.getD 5 undef = u 5 → x.getD 8 undef = u 8 → x.getD 9 undef = u 9 → K1 ⟨x,[]⟩ Z) : Code.wp Tryz.prog (inC (inC (rtC 1 (lfC (rtC 8 (Tryz.f21.body.getD .skip)))))) (Exit.then K (Exit.inBlock 2 (Exit.then K1 (bodyPost Tryz.prog Tryz.f21 PO)))) (FrN u) Z:=by
 have HKK:=hide HK
 clear HK
 unfold FrN
 rw [h10,h11]
 clear h10 h11
 conv => arg 2; whnf
 go_wp2
 exact uh HKK _ rfl rfl rfl rfl rfl rfl rfl
set_option maxRecDepth 1000000 in
theorem out_exit {u : Nat → Value} {n : Nat} {Z : World} (h21 : u 21 = .int .i64 n) (h22 : u 22 = .int .i64 n) {K K1 : Act → World → Prop} {PO : Ending → World → Prop} (HK : ∀ x : Array Value,x.size = 266 → x.getD 0 undef = u 0 → x.getD 4 undef = u 4 → x.getD 5 undef = u 5 → x.getD 8 undef = u 8 → x.getD 9 undef = u 9 → K1 ⟨x,[]⟩ Z) : Code.wp Tryz.prog (inC (inC (rtC 1 (lfC (rtC 10 (Tryz.f21.body.getD .skip)))))) (Exit.then K (Exit.inBlock 8 (Exit.then K1 (bodyPost Tryz.prog Tryz.f21 PO)))) (FrN u) Z:=by
 have HKK:=hide HK
 clear HK
 unfold FrN
 rw [h21,h22]
 clear h21 h22
 conv => arg 2; whnf
 go_wp2
 exact uh HKK _ rfl rfl rfl rfl rfl rfl
set_option maxRecDepth 1000000 in
theorem out_head {u : Nat → Value} {n i : Nat} (hi : i < n) {Z : World} (h21 : u 21 = .int .i64 n) (h22 : u 22 = .int .i64 i) {K K1 K2 : Act → World → Prop} {PO : Ending → World → Prop} (HK : ∀ x : Array Value,x.size = 266 → x.getD 0 undef = u 0 → x.getD 4 undef = u 4 → x.getD 5 undef = u 5 → x.getD 8 undef = u 8 → x.getD 9 undef = u 9 → x.getD 21 undef = u 21 → x.getD 22 undef = u 22 → K2 ⟨x,[]⟩ Z) : Code.wp Tryz.prog (lfC (inC (inC (rtC 1 (lfC (rtC 10 (Tryz.f21.body.getD .skip))))))) (Exit.then K2 (Exit.then K (Exit.inBlock 8 (Exit.then K1 (bodyPost Tryz.prog Tryz.f21 PO))))) (FrN u) Z:=by
 have hiI : (i : Int) < (n : Int):=by omega
 have HKK:=hide HK
 have HU:=hide (And.intro h21 h22)
 clear HK
 unfold FrN
 rw [h21,h22]
 conv => arg 2; whnf
 clear h21 h22
 go_wp2
 exact uh HKK _ rfl rfl rfl rfl rfl rfl (uh HU).1.symm (uh HU).2.symm
set_option maxRecDepth 1000000 in
theorem inc8 {u : Nat → Value} {j : Nat} (hj : j < 1000) {Z : World} (h22 : u 22 = .int .i64 j) {K K1 : Act → World → Prop} {PO : Ending → World → Prop} (HK : ∀ x : Array Value,x.size = 266 → x.getD 0 undef = u 0 → x.getD 4 undef = u 4 → x.getD 5 undef = u 5 → x.getD 8 undef = u 8 → x.getD 9 undef = u 9 → x.getD 21 undef = u 21 → x.getD 22 undef = .int .i64 ((j : Int) + 1) → K ⟨x,[]⟩ Z) : Code.wp Tryz.prog (rtC 2 (inC (inC (rtC 1 (lfC (rtC 10 (Tryz.f21.body.getD .skip))))))) (Exit.then K (Exit.inBlock 8 (Exit.then K1 (bodyPost Tryz.prog Tryz.f21 PO)))) (FrN u) Z:=by
 have hw1 : IntKind.i64.wrap ((j : Int) + 1) = (j : Int) + 1:=by rw [IntKind.wrap_i64]; omega
 have HKK:=hide HK
 clear HK
 unfold FrN
 rw [h22]
 conv => arg 2; whnf
 go_wp2
 exact uh HKK _ rfl rfl rfl rfl rfl rfl rfl rfl
set_option maxRecDepth 1000000 in
theorem grp_loop {code : List Int} {W0 : World} {cb : Nat} {cv : Value} {w : World} {rb nb sb : Nat} {X : World} {c : Cur} {nm : ByteArray} {sv vi vo vv qv ev : Value} {rank : Nat} {xs is os vs : List DVar} {qs es : List DEq} {hi : Nat} (p : Nz code W0 cb cv w rb nb sb X c nm sv vi vo vv (.slice none 0 0) ev rank xs is os vs [] es hi)
  {before : List DNode} {ba : Option Addr} {bc : Nat} (hbf : SlAt 5 112 RNode (cb + 1) w (.slice ba before.length bc) before) (hbn : before.length ≤ 3) (hbo : ∀ n,n ∈ before → okDN n) {n : Nat} (hn : n ≤ 100) (hS : ∀ g,g ≤ n → SI 80 (itF (fun _ => grF code before) g ⟨xs,vs,es,c⟩)) (hO : ∀ g,g < n → okB 4376 (itF (fun _ => grF code before) g ⟨xs,vs,es,c⟩).c)
  {u : Nat → Value} (h0 : u 0 = .pointer (some ⟨cb,0,none⟩)) (h1 : u 1 = .slice ba before.length bc) (h5 : u 5 = .pointer (some ⟨nb,0,none⟩)) (h8 : u 8 = .pointer (some ⟨sb,0,none⟩)) (h9 : u 9 = ev) (h10 : u 10 = .int .i64 n) (h11 : u 11 = .int .i64 0) {K1 : Act → World → Prop} {PO : Ending → World → Prop}
  (HK : ∀ x Z sv9 vv9 ev9 rk9 hi9,x.size = 266 → x.getD 0 undef = .pointer (some ⟨cb,0,none⟩) ∧ x.getD 4 undef = u 4 ∧ x.getD 5 undef = .pointer (some ⟨nb,0,none⟩) ∧ x.getD 8 undef = .pointer (some ⟨sb,0,none⟩) ∧ x.getD 9 undef = ev9 → Hid (Nz code W0 cb cv w rb nb sb Z (itF (fun _ => grF code before) n ⟨xs,vs,es,c⟩).c nm sv9 vi vo vv9 (.slice none 0 0) ev9 rk9 (itF (fun _ => grF code before) n ⟨xs,vs,es,c⟩).sv is os (itF (fun _ => grF code before) n ⟨xs,vs,es,c⟩).vs [] (itF (fun _ => grF code before) n ⟨xs,vs,es,c⟩).eqs hi9) → K1 ⟨x,[]⟩ Z) :
  Code.wp Tryz.prog (.loop (inC (inC (rtC 1 (lfC (rtC 8 (Tryz.f21.body.getD .skip))))))) (Exit.inBlock 2 (Exit.then K1 (bodyPost Tryz.prog Tryz.f21 PO))) (FrN u) X:=by
 refine wp_loop (fun a' wr => ∃ (x : Array Value) (g : Nat) (sv9 vv9 ev9 : Value) (rk9 hi9 : Nat),a' = ⟨x,[]⟩ ∧ x.size = 266 ∧ (x.getD 0 undef = .pointer (some ⟨cb,0,none⟩) ∧ x.getD 1 undef = .slice ba before.length bc ∧ x.getD 4 undef = u 4 ∧ x.getD 5 undef = .pointer (some ⟨nb,0,none⟩) ∧ x.getD 8 undef = .pointer (some ⟨sb,0,none⟩) ∧ x.getD 9 undef = ev9 ∧ x.getD 10 undef = .int .i64 n ∧ x.getD 11 undef = .int .i64 g) ∧ g ≤ n ∧ Hid (Nz code W0 cb cv w rb nb sb wr (itF (fun _ => grF code before) g ⟨xs,vs,es,c⟩).c nm sv9 vi vo vv9 (.slice none 0 0) ev9 rk9 (itF (fun _ => grF code before) g ⟨xs,vs,es,c⟩).sv is os (itF (fun _ => grF code before) g ⟨xs,vs,es,c⟩).vs [] (itF (fun _ => grF code before) g ⟨xs,vs,es,c⟩).eqs hi9)) (fun a' _ => n - slotN 11 a') ?_ ?_
 ·exact ⟨_,0,sv,vv,ev,rank,hi,rfl,rfl,⟨h0,h1,rfl,h5,h8,h9,h10,h11⟩,Nat.zero_le _,p⟩
 ·rintro a' wr ⟨x,g,sv9,vv9,ev9,rk9,hi9,rfl,hsz,⟨k0,k1,k4,k5,k8,k9,k10,k11⟩,hg,hst⟩
  rw [slotN_int k11,frN_mk x hsz]
  by_cases hlt : g < n
  ·have hs:=hS g hg
   refine grp_round (qv:=.slice none 0 0) (qs:=[]) (uh hst) hs.sl hs.vl hs.el hs.sk hbf hbn hbo (hO g hlt) hlt hn k0 k1 k5 k8 k9 k10 k11 ?_
   intro y Z sv' vv' ev' rk hi' hy ⟨j0,j1,j4,j5,j8,j9,j10,j11⟩ hn2
   refine ⟨⟨y,g + 1,sv',vv',ev',rk,hi',rfl,hy,⟨j0,j1,j4.trans k4,j5,j8,j9,j10,j11⟩,hlt,hn2⟩,?_⟩
   rw [slotN_int j11]
   omega
  ·have e : g = n:=by omega
   subst e
   refine grp_exit k10 k11 ?_
   intro y hy j0 j1 j4 j5 j8 j9
   exact HK y wr sv9 vv9 ev9 rk9 hi9 hy ⟨j0.trans k0,j4.trans k4,j5.trans k5,j8.trans k8,j9.trans k9⟩ hst
set_option maxRecDepth 1000000 in
theorem out_loop {code : List Int} {W0 : World} {cb : Nat} {cv : Value} {w : World} {rb nb sb : Nat} {X : World} {c : Cur} {nm : ByteArray} {sv vi vo vv qv ev : Value} {rank : Nat} {xs is os vs : List DVar} {qs es : List DEq} {hi : Nat} (p : Nz code W0 cb cv w rb nb sb X c nm sv vi vo vv (.slice none 0 0) ev rank xs is os vs [] es hi) {n : Nat} (hn : n ≤ 50) (hS : ∀ g,g ≤ n → SI 80 (itF (ouF code) g ⟨xs,os,es,c⟩)) (hO : ∀ g,g < n → okB 4372 (itF (ouF code) g ⟨xs,os,es,c⟩).c)
  {u : Nat → Value} (h0 : u 0 = .pointer (some ⟨cb,0,none⟩)) (h5 : u 5 = .pointer (some ⟨nb,0,none⟩)) (h8 : u 8 = .pointer (some ⟨sb,0,none⟩)) (h9 : u 9 = ev) (h21 : u 21 = .int .i64 n) (h22 : u 22 = .int .i64 0) {K1 : Act → World → Prop} {PO : Ending → World → Prop}
  (HK : ∀ x Z sv9 vo9 ev9 rk9 hi9,x.size = 266 → x.getD 0 undef = .pointer (some ⟨cb,0,none⟩) ∧ x.getD 4 undef = u 4 ∧ x.getD 5 undef = .pointer (some ⟨nb,0,none⟩) ∧ x.getD 9 undef = ev9 → Hid (Nz code W0 cb cv w rb nb sb Z (itF (ouF code) n ⟨xs,os,es,c⟩).c nm sv9 vi vo9 vv (.slice none 0 0) ev9 rk9 (itF (ouF code) n ⟨xs,os,es,c⟩).sv is (itF (ouF code) n ⟨xs,os,es,c⟩).vs vs [] (itF (ouF code) n ⟨xs,os,es,c⟩).eqs hi9) → K1 ⟨x,[]⟩ Z) :
  Code.wp Tryz.prog (.loop (inC (inC (rtC 1 (lfC (rtC 10 (Tryz.f21.body.getD .skip))))))) (Exit.inBlock 8 (Exit.then K1 (bodyPost Tryz.prog Tryz.f21 PO))) (FrN u) X:=by
 refine wp_loop (fun a' wr => ∃ (x : Array Value) (g : Nat) (sv9 vo9 ev9 : Value) (rk9 hi9 : Nat),a' = ⟨x,[]⟩ ∧ x.size = 266 ∧ (x.getD 0 undef = .pointer (some ⟨cb,0,none⟩) ∧ x.getD 4 undef = u 4 ∧ x.getD 5 undef = .pointer (some ⟨nb,0,none⟩) ∧ x.getD 8 undef = .pointer (some ⟨sb,0,none⟩) ∧ x.getD 9 undef = ev9 ∧ x.getD 21 undef = .int .i64 n ∧ x.getD 22 undef = .int .i64 g) ∧ g ≤ n ∧ Hid (Nz code W0 cb cv w rb nb sb wr (itF (ouF code) g ⟨xs,os,es,c⟩).c nm sv9 vi vo9 vv (.slice none 0 0) ev9 rk9 (itF (ouF code) g ⟨xs,os,es,c⟩).sv is (itF (ouF code) g ⟨xs,os,es,c⟩).vs vs [] (itF (ouF code) g ⟨xs,os,es,c⟩).eqs hi9)) (fun a' _ => n - slotN 22 a') ?_ ?_
 ·exact ⟨_,0,sv,vo,ev,rank,hi,rfl,rfl,⟨h0,rfl,h5,h8,h9,h21,h22⟩,Nat.zero_le _,p⟩
 ·rintro a' wr ⟨x,g,sv9,vo9,ev9,rk9,hi9,rfl,hsz,⟨k0,k4,k5,k8,k9,k21,k22⟩,hg,hst⟩
  rw [slotN_int k22,frN_mk x hsz]
  by_cases hlt : g < n
  ·have hs:=hS g hg
   have shp : (inC (inC (rtC 1 (lfC (rtC 10 (Tryz.f21.body.getD .skip)))))) = .seq (lfC (inC (inC (rtC 1 (lfC (rtC 10 (Tryz.f21.body.getD .skip))))))) (.seq (.block 9 (inC (lfC (rtC 1 (inC (inC (rtC 1 (lfC (rtC 10 (Tryz.f21.body.getD .skip)))))))))) (rtC 2 (inC (inC (rtC 1 (lfC (rtC 10 (Tryz.f21.body.getD .skip)))))))):=rfl
   rw [shp]
   refine wp_seq_k (fun K2 H2 => ?_)
   refine out_head hlt k21 k22 ?_
   intro y hy j0 j4 j5 j8 j9 j21 j22
   refine H2 _ _ (wp_seq_k (fun K3 H3 => wp_block ?_))
   rw [frN_mk y hy]
   refine out_ok (qv:=.slice none 0 0) (qs:=[]) (i:=g) (by omega) (uh hst) (Nat.le_trans hs.sl (by omega)) (Nat.le_trans hs.vl (by omega)) (Nat.le_trans hs.el (by omega)) hs.sk (hO g hlt) (j0.trans k0) (j5.trans k5) (j8.trans k8) (j9.trans k9) (j22.trans k22) ?_
   intro z Z sv' vo' ev' rk hi' hz i0 i4 i5 i8 i21 i22 i9 hn2
   refine H3 _ _ ?_
   rw [frN_mk z hz]
   refine inc8 (u:=fun i => z.getD i undef) (j:=g) (by omega) i22 ?_
   intro z2 hz2 l0 l4 l5 l8 l9 l21 l22
   refine ⟨⟨z2,g + 1,sv',vo',ev',rk,hi',rfl,hz2,⟨l0.trans i0,(l4.trans i4).trans (j4.trans k4),l5.trans i5,l8.trans i8,l9.trans i9,(l21.trans i21).trans (j21.trans k21),l22⟩,hlt,hn2⟩,?_⟩
   rw [slotN_int l22]
   omega
  ·have e : g = n:=by omega
   subst e
   refine out_exit k21 k22 ?_
   intro y hy j0 j4 j5 j8 j9
   exact HK y wr sv9 vo9 ev9 rk9 hi9 hy ⟨j0.trans k0,j4.trans k4,j5.trans k5,j9.trans k9⟩ hst
theorem All3.erase {α β γ : Type} {R : α → β → γ → Prop} {la : List α} {lb : List β} {lc : List γ} (h : All3 R la lb lc) : ∀ i,All3 R (la.eraseIdx i) (lb.eraseIdx i) (lc.eraseIdx i):=by
 induction h using All3.ind with
 | nil => intro i; exact .nil
 | cons h k ih =>
  intro i
  cases i with
  | zero => exact k
  | succ i => exact .cons h (ih i)
theorem SlAt.takeG {α : Type} {sz byt lo : Nat} {R : Nat → World → List Value → α → Prop} {X : World} {xs : List α} {a : Option Addr} {cap m : Nat} (h : SlAt sz byt R lo X (.slice a xs.length cap) xs) (hm : m ≤ xs.length) : SlAt sz byt R lo X (.slice a m cap) (xs.take m):=by
 obtain ⟨a9,c9,he,h1,h2,h3⟩:=h
 simp only [Value.slice.injEq] at he
 obtain ⟨rfl,_,rfl⟩:=he
 have hl : (xs.take m).length = m:=by rw [List.length_take,Nat.min_eq_left hm]
 refine ⟨a,cap,by rw [hl],⟨?_,by rw [hl]; exact Nat.le_trans hm h1.2⟩,by unfold Len at h2 ⊢; omega,fun i hi => ?_⟩
 ·rw [hl]
  exact Nat.le_trans (Nat.mul_le_mul_right _ hm) h1.1
 ·have h9:=h3 i (by rw [hl] at hi; omega)
  rw [List.getElem_take]
  exact h9
theorem SlAt.dropG {α : Type} {sz byt lo : Nat} {R : Nat → World → List Value → α → Prop} {X : World} {xs : List α} {b o cap m x : Nat} (h : SlAt sz byt R lo X (.slice (some ⟨b,o,none⟩) xs.length cap) xs) (hm : m ≤ xs.length) (hx : m < xs.length → x = o + m * sz) : SlAt sz byt R lo X (.slice (some ⟨b,x,none⟩) (xs.length - m) (cap - m)) (xs.drop m):=by
 obtain ⟨a9,c9,he,h1,h2,h3⟩:=h
 simp only [Value.slice.injEq] at he
 obtain ⟨rfl,_,rfl⟩:=he
 have hl : (xs.drop m).length = xs.length - m:=List.length_drop
 refine ⟨_,cap - m,by rw [hl],⟨?_,by rw [hl]; have:=h1.2; omega⟩,by unfold Len at h2 ⊢; omega,fun i hi => ?_⟩
 ·rw [hl]
  exact Nat.le_trans (Nat.mul_le_mul_right _ (by omega)) h1.1
 ·rw [hl] at hi
  obtain ⟨b2,o2,cs,e1,e2,e3,e4,e5,e6⟩:=h3 (m + i) (by omega)
  simp only [Option.some.injEq,Addr.mk.injEq] at e1
  obtain ⟨rfl,rfl,_⟩:=e1
  refine ⟨b,x,cs,rfl,e2,e3,e4,fun j hj => ?_,?_⟩
  ·have h9:=e5 j hj
   rw [hx (by omega),show o + m * sz + i * sz + j = o + (m + i) * sz + j by rw [Nat.add_mul]; omega]
   exact h9
  ·rw [List.getElem_drop]
   exact e6
theorem Rk.cut {lo hi : Nat} {A : World} {g cap : Nat} {es : List DEq} (hr : Rk rEq TEq lo hi A (.slice (some ⟨g,0,none⟩) es.length cap) es) {j x : Nat} (hj : j < es.length) (hl : es.length ≤ 1000) (hx : j + 1 < es.length → x = 0 + (j + 1) * 4) {b0 : Nat} (h0 : OwnV rEq A b0 (.slice (some ⟨b0,0,none⟩) 0 0) []) (hn : g < b0) (hlo : b0 ≤ A.heap.size) (hll : lo ≤ b0) :
  ∃ g1 c1 Z1 g2 c2 Z2,Hid ((Builtin.append_ #[41,41] 41 #[.slice (some ⟨b0,0,none⟩) 0 0,.slice (some ⟨g,0,none⟩) j cap]).run Tryz.prog A = .ok (.slice (some ⟨g1,0,none⟩) j c1) Z1) ∧ Hid ((Builtin.append_ #[41,41] 41 #[.slice (some ⟨g1,0,none⟩) j c1,.slice (some ⟨g,x,none⟩) (es.length - (j + 1)) (cap - (j + 1))]).run Tryz.prog Z1 = .ok (.slice (some ⟨g2,0,none⟩) (es.length - 1) c2) Z2) ∧ Rk rEq TEq lo hi Z2 (.slice (some ⟨g2,0,none⟩) (es.length - 1) c2) (es.eraseIdx j) ∧ KpH 58 b0 A Z2 ∧ b0 ≤ g2:=by
 obtain ⟨css,subs,h1,h2,h3⟩:=hr
 have hcl:=h2.len
 have hsl : SlAt 4 88 RRaw 0 A (.slice (some ⟨g,0,none⟩) css.length cap) css:=by rw [hcl.1]; exact h1.at (fun _ _ => rfl) (show css.length * 88 ≤ _ by omega)
 have ht : (css.take j).length = j:=by rw [List.length_take,Nat.min_eq_left (by omega)]
 have hd : (css.drop (j + 1)).length = es.length - (j + 1):=by rw [List.length_drop,hcl.1]
 obtain ⟨g1,c1,Z1,r1,o1,gr1⟩:=run_append_all rEq (R:=RRaw) (fun _ _ _ h => h) A 41 b0 b0 0 [] h0 (.slice (some ⟨g,0,none⟩) j cap) (css.take j) (hsl.takeG (by omega)) (show (0 + (css.take j).length) * 88 ≤ _ by omega) hlo
 rw [List.nil_append,List.length_nil,Nat.zero_add] at o1
 rw [List.length_nil,Nat.zero_add,ht] at r1
 have k1 : KpH 58 b0 A Z1:=KpH.own (E:=rEq) h0 gr1
 have h1Z : OwnV rEq Z1 lo (.slice (some ⟨g,0,none⟩) es.length cap) css:=h1.kp k1 (Or.inr (fun b hb => by cases hb; exact hn))
 have hs1 : SlAt 4 88 RRaw 0 Z1 (.slice (some ⟨g,0,none⟩) css.length cap) css:=by
  rw [hcl.1]
  exact h1Z.at (fun _ _ => rfl) (show css.length * 88 ≤ _ by omega)
 have hs2:=hs1.dropG (m:=j + 1) (x:=x) (by omega) (fun h => hx (by omega))
 rw [hcl.1] at hs2
 obtain ⟨g2,c2,Z2,r2,o2,gr2⟩:=run_append_all rEq (R:=RRaw) (fun _ _ _ h => h) Z1 41 b0 g1 c1 (css.take j) o1 (.slice (some ⟨g,x,none⟩) (es.length - (j + 1)) (cap - (j + 1))) (css.drop (j + 1)) hs2 (show ((css.take j).length + (css.drop (j + 1)).length) * 88 ≤ _ by rw [ht,hd]; omega) (Nat.le_trans hlo k1.size)
 rw [ht,hd,show j + (es.length - (j + 1)) = es.length - 1 by omega] at r2 o2
 have k2 : KpH 58 b0 A Z2:=k1.trans (KpH.own (E:=rEq) o1 gr2)
 rw [← List.eraseIdx_eq_take_drop_succ] at o2
 refine ⟨g1,c1,Z1,g2,c2,Z2,r1,r2,⟨css.eraseIdx j,subs.eraseIdx j,o2.low hll,(h2.erase j).mono (fun c x s _ _ hs h9 => TEq_fr _ _ _ _ _ h9 (fun b hb => ((h3 b (List.mem_flatten.2 ⟨s,List.mem_of_mem_eraseIdx hs,hb⟩)).kp k2 (Or.inl (by decide))).1)),fun b hb => ?_⟩,k2,o2.block g2 rfl⟩
 obtain ⟨s,hs,hb2⟩:=List.mem_flatten.1 hb
 exact ((h3 b (List.mem_flatten.2 ⟨s,List.mem_of_mem_eraseIdx hs,hb2⟩)).kp k2 (Or.inl (by decide))).2
theorem Nz.pushQ {code : List Int} {W0 : World} {cb : Nat} {cv : Value} {w : World} {rb nb sb : Nat} {X : World} {c : Cur} {nm : ByteArray} {sv vi vo vv qv ev : Value} {rank : Nat} {xs is os vs : List DVar} {qs es : List DEq} {hi : Nat} (p : Nz code W0 cb cv w rb nb sb X c nm sv vi vo vv qv ev rank xs is os vs qs es hi) {j : Nat} (hj : j < es.length) (hel : es.length ≤ 900) (hql : qs.length ≤ 900) :
  ∃ g cap a1 n1 c1 a2 n2 c2 s a3 n3 c3 a' n' c' Z,ev = .slice (some ⟨g,0,none⟩) es.length cap ∧ (X.cell? ⟨g,j * 4,none⟩ = some (.slice a1 n1 c1) ∧ X.cell? ⟨g,j * 4 + 1,none⟩ = some (.slice a2 n2 c2) ∧ X.cell? ⟨g,j * 4 + 2,none⟩ = some (.string s) ∧ X.cell? ⟨g,j * 4 + 3,none⟩ = some (.slice a3 n3 c3)) ∧ Hid ((Builtin.append_ #[41,41] 41 #[qv,.slice (some ⟨X.heap.size,0,none⟩) 1 1]).run Tryz.prog (X.alloc (.cells #[.slice a1 n1 c1,.slice a2 n2 c2,.string s,.slice a3 n3 c3] 58)) = .ok (.slice a' n' c') Z) ∧ BlkAt Z nb 43 #[.string nm,vi,vo,vv,qv] ∧ Hid (Nz code W0 cb cv w rb nb sb (Z.setCell ⟨nb,4,none⟩ (.slice a' n' c')) c nm sv vi vo vv (.slice a' n' c') ev rank xs is os vs (qs ++ [es.getD j dE]) es Z.heap.size) ∧ Hid (es.length ≤ cap):=by
 obtain ⟨css,subs,h1,h2,h3⟩:=p.qz.e
 have hcl:=h2.len
 have hj2 : j < css.length:=by omega
 obtain ⟨g,cap,hv,hg,hcp,hcell⟩:=h1.rcell rfl (fun _ => rfl) hj2 (show css.length * 88 ≤ _ by omega)
 have hT:=h2.get j hj2 hj (by omega)
 have hT2:=hT
 obtain ⟨l,c9,a9,b1,b2,b3,e,hcs,⟨r1,_⟩,⟨r2,_⟩,⟨css3,subs3,r3,_⟩,hbs⟩:=hT2
 obtain ⟨a1,c1,rfl⟩:=r1.slice
 obtain ⟨a2,c2,rfl⟩:=r2.slice
 obtain ⟨a3,c3,rfl⟩:=r3.slice
 have hrw : css[j].1 = (rawEq a1 es[j].lhs.length c1 a2 es[j].code.length c2 es[j].call a3 css3.length c3).1:=e
 rw [hrw] at hT
 have hA : Below X.heap.size X (X.alloc (.cells #[.slice a1 es[j].lhs.length c1,.slice a2 es[j].code.length c2,.string es[j].call,.slice a3 css3.length c3] 58)):=(Below.refl _ _).alloc (Nat.le_refl _) _
 have pA:=p.below hA
 have qA:=KpH.below 1000000 X.heap.size hA
 have hs : ∀ b,b ∈ subs[j]'(by omega) → Sd w.heap.size hi X b:=fun b hb => h3 b (List.mem_flatten.2 ⟨_,List.getElem_mem (by omega),hb⟩)
 have hs2:=fun b hb => (hs b hb).kp qA (Or.inr p.hl)
 have hwX:=p.tr.size
 obtain ⟨v',Z,g1,g2,g3,g4⟩:=pA.qz.q.push TEq_fr eq_notS (Nat.le_trans hwX hA.size) (TEq_fr _ _ _ _ _ hT (fun b hb => (hs2 b hb).1)) (fun b hb => (hs2 b hb).2) rfl (eb:=X.heap.size) (blk_box X _ _) (show (qs.length + 1) * 88 ≤ _ by omega) 41
 obtain ⟨a',c',rfl⟩:=g2.slice
 have hq:=pA.qz.q.blk
 have q : KpH 58 w.heap.size _ Z:=KpH.ofGrown g3 (fun b hb => ⟨(hq b hb).1,(hq b hb).2.2⟩)
 have hbZ:=pA.nbx.kp q (Or.inl (by decide))
 have q2 : KpH 43 w.heap.size Z (Z.setCell ⟨nb,4,none⟩ (.slice a' (qs ++ [es[j]]).length c')):=KpH.set hbZ p.nbl 4 _
 have eD : es.getD j dE = es[j]:=by rw [List.getD_eq_getElem?_getD,List.getElem?_eq_getElem hj]; rfl
 have hzz:=g3.size
 have hAs:=hA.size
 have hhl:=p.hl
 rw [eD]
 refine ⟨g,cap,a1,_,c1,a2,_,c2,_,a3,_,c3,a',_,c',Z,by rw [hv,hcl.1],⟨?_,?_,?_,?_⟩,g1,hbZ,⟨(pA.cu.kp q p.lc).kp q2 p.lc,(pA.tr.kp q (Nat.le_refl _)).kp q2 (Nat.le_refl _),p.lc,p.rbl,p.nbl,p.sbl,p.rn,(Tr.setCell _ _ _ _).blk (pA.rbx.kp q (Or.inl (by decide))) p.rn,hbZ.set 4 _,(pA.sbx.kp q (Or.inl (by decide))).kp q2 (Or.inl (by decide)),(((pA.vz.kp q (Or.inl (by decide)) (by decide)).kp q2 (Or.inl (by decide)) (by decide))).up (hi':=Z.heap.size) (by omega),⟨((pA.qz.e.other TEq_fr eq_notS pA.qz.q g3 p.qz.d.symm).kp TEq_fr q2 (Or.inl (by decide)) (Or.inl (by decide))).up (hi':=Z.heap.size) (by omega),(g2.kp TEq_fr q2 (Or.inl (by decide)) (Or.inl (by decide))).up (hi':=Z.heap.size) (by omega),(p.qz.d.symm.grown g4 (fun b hb => (pA.qz.e.blk b hb).2.1)).symm,fun b hb => by have:=p.qz.eh b hb; omega,fun b hb => (g2.blk b hb).2.1⟩,q2.size⟩,hide (by omega)⟩
 ·have h9:=hcell 0 _ (by rw [hrw]; rfl)
  simpa using h9
 ·exact hcell 1 _ (by rw [hrw]; rfl)
 ·exact hcell 2 _ (by rw [hrw]; rfl)
 ·exact hcell 3 _ (by rw [hrw]; rfl)
theorem Nz.cut {code : List Int} {W0 : World} {cb : Nat} {cv : Value} {w : World} {rb nb sb : Nat} {X : World} {c : Cur} {nm : ByteArray} {sv vi vo vv qv ev : Value} {rank : Nat} {xs is os vs : List DVar} {qs es : List DEq} {hi : Nat} {g cap : Nat} (p : Nz code W0 cb cv w rb nb sb X c nm sv vi vo vv qv (.slice (some ⟨g,0,none⟩) es.length cap) rank xs is os vs qs es hi) {j x : Nat} (hj : j < es.length) (hel : es.length ≤ 900) (hx : j + 1 < es.length → x = 0 + (j + 1) * 4) :
  ∃ g1 c1 Z1 g2 c2 Z2,Hid ((Builtin.append_ #[41,41] 41 #[.slice (some ⟨X.heap.size,0,none⟩) 0 0,.slice (some ⟨g,0,none⟩) j cap]).run Tryz.prog (X.alloc (.cells #[] 58)) = .ok (.slice (some ⟨g1,0,none⟩) j c1) Z1) ∧ Hid ((Builtin.append_ #[41,41] 41 #[.slice (some ⟨g1,0,none⟩) j c1,.slice (some ⟨g,x,none⟩) (es.length - (j + 1)) (cap - (j + 1))]).run Tryz.prog Z1 = .ok (.slice (some ⟨g2,0,none⟩) (es.length - 1) c2) Z2) ∧ Hid (Nz code W0 cb cv w rb nb sb Z2 c nm sv vi vo vv qv (.slice (some ⟨g2,0,none⟩) (es.length - 1) c2) rank xs is os vs qs (es.eraseIdx j) Z2.heap.size):=by
 have hA : Below X.heap.size X (X.alloc (.cells #[] 58)):=(Below.refl _ _).alloc (Nat.le_refl _) _
 have pA:=p.below hA
 have hwX:=p.tr.size
 have hgl:=(p.qz.e.blk g rfl).2.1
 obtain ⟨g1,c1,Z1,g2,c2,Z2,r1,r2,r3,r4,r5⟩:=pA.qz.e.cut hj (by omega) hx (OwnV.start (E:=rEq) X X.heap.size (Nat.le_refl _)) hgl hA.size hwX
 have hz:=r4.size
 have hAs:=hA.size
 have hhl:=p.hl
 have hq:=fun b hb => (p.qz.q.blk b hb).2.1
 have hdj : Dj (.slice (some ⟨g2,0,none⟩) (es.length - 1) c2) qv:=fun b h1 h2 => by
  have e : g2 = b:=by simpa [Value.ownBlock] using h1
  have:=hq b h2
  omega
 exact ⟨g1,c1,Z1,g2,c2,Z2,r1,r2,⟨pA.cu.kp r4 (by have:=p.lc; omega),pA.tr.kp r4 hwX,p.lc,p.rbl,p.nbl,p.sbl,p.rn,pA.rbx.kp r4 (Or.inl (by decide)),pA.nbx.kp r4 (Or.inl (by decide)),pA.sbx.kp r4 (Or.inl (by decide)),(pA.vz.kp r4 (Or.inl (by decide)) (by decide)).up (hi':=Z2.heap.size) (by omega),⟨r3.up (hi':=Z2.heap.size) (by omega),(pA.qz.q.kp TEq_fr r4 (Or.inl (by decide)) (Or.inr hq)).up (hi':=Z2.heap.size) (by omega),hdj,fun b hb => (r3.blk b hb).2.1,fun b hb => by have:=hq b hb; omega⟩,Nat.le_refl _⟩⟩
set_option maxRecDepth 1000000 in
set_option maxHeartbeats 8000000 in
theorem ecut_ok {code : List Int} {W0 : World} {cb : Nat} {cv : Value} {w : World} {rb nb sb : Nat} {X : World} {c : Cur} {nm : ByteArray} {sv vi vo vv qv ev : Value} {rank : Nat} {xs is os vs : List DVar} {qs es : List DEq} {hi : Nat} {g cap j : Nat} (p : Nz code W0 cb cv w rb nb sb X c nm sv vi vo vv qv (.slice (some ⟨g,0,none⟩) es.length cap) rank xs is os vs qs es hi) (hj : j < es.length) (hel : es.length ≤ 90) (hcap : es.length ≤ cap)
  {u : Nat → Value} (h9 : u 9 = .slice (some ⟨g,0,none⟩) es.length cap) (h24 : u 24 = .int .i64 j) {K K1 : Act → World → Prop} {PO : Ending → World → Prop}
  (HK : ∀ x Z ev' hi',x.size = 266 → x.getD 0 undef = u 0 → x.getD 4 undef = u 4 → x.getD 5 undef = u 5 → x.getD 9 undef = ev' → Nz code W0 cb cv w rb nb sb Z c nm sv vi vo vv qv ev' rank xs is os vs qs (es.eraseIdx j) hi' → K ⟨x,[]⟩ Z) :
  Code.wp Tryz.prog (rtC 2 (inC (rtC 1 (inC (inC (lfC (rtC 11 (Tryz.f21.body.getD .skip)))))))) (Exit.inBlock 11 (Exit.then K (Exit.inBlock 10 (Exit.then K1 (bodyPost Tryz.prog Tryz.f21 PO))))) (FrN u) X:=by
 have hdr : Below X.heap.size X X.drew:=(Below.refl _ _).drew
 obtain ⟨x,hx⟩ : ∃ x : Nat,x = if cap = j + 1 then 0 else (j + 1) * 4:=⟨_,rfl⟩
 obtain ⟨g1,c1,Z1,g2,c2,Z2,HR1,HR2,HN⟩:=(p.below hdr).cut (ev:=ev) (x:=x) hj (by omega) (fun h => by rw [hx,if_neg (by omega)]; omega)
 have hz : X.drew.heap.size = X.heap.size:=by simp
 rw [hz] at HR1
 replace HR1 : Hid ((Builtin.append_ #[41,41] 41 #[.slice (some ⟨X.heap.size,0,none⟩) 0 0,.slice (some ⟨g,0,none⟩) j cap]).run Tryz.prog (X.alloc (.cells #[] 58)).drew = .ok (.slice (some ⟨g1,0,none⟩) j c1) Z1):=HR1
 have hsl : (if cap = j + 1 then some (⟨g,0,none⟩ : Addr) else some ⟨g,(j + 1) * 4,none⟩) = some ⟨g,x,none⟩:=by
  rw [hx]
  split <;> rfl
 have hjI : (j : Int) < (es.length : Int):=by omega
 have hjc : j ≤ cap:=by omega
 have hj0 : (0 : Int) ≤ (j : Int) + 1:=by omega
 have hj1 : (j : Int) + 1 ≤ (es.length : Int):=by omega
 have hjn : j + 1 ≤ es.length:=by omega
 have hcI : (es.length : Int) ≤ (cap : Int):=by omega
 have hw1 : IntKind.i64.wrap ((j : Int) + 1) = (j : Int) + 1:=by rw [IntKind.wrap_i64]; omega
 have HKK:=hide HK
 have HX:=hide hx
 clear HK p hdr hz hx
 unfold FrN
 rw [h9,h24]
 clear h9 h24
 conv => arg 2; whnf
 go_wp2_with fail
 go_region_law (first | (refine step_append_run rfl _ _ 41 41 rfl rfl _ _ _ rfl rfl (uh HR1) ?_; clear HR1) | (refine step_append_run rfl _ _ 41 41 rfl rfl _ _ _ rfl rfl (uh HR2) ?_))
 all_goals
  exact uh HKK _ _ _ _ rfl rfl rfl rfl rfl (uh HN)
set_option maxRecDepth 1000000 in
set_option maxHeartbeats 8000000 in
theorem perm_round {code : List Int} {W0 : World} {cb : Nat} {cv : Value} {w : World} {rb nb sb : Nat} {X : World} {c : Cur} {nm : ByteArray} {sv vi vo vv qv ev : Value} {rank : Nat} {xs is os vs : List DVar} {qs es : List DEq} {hi : Nat} {g cap : Nat} (p : Nz code W0 cb cv w rb nb sb X c nm sv vi vo vv qv (.slice (some ⟨g,0,none⟩) es.length cap) rank xs is os vs qs es hi) (hpos : 0 < es.length) (hel : es.length ≤ 90) (hql : qs.length ≤ 90) (hok : okB 1 c)
  {u : Nat → Value} (h0 : u 0 = .pointer (some ⟨cb,0,none⟩)) (h5 : u 5 = .pointer (some ⟨nb,0,none⟩)) (h9 : u 9 = .slice (some ⟨g,0,none⟩) es.length cap) {K K1 : Act → World → Prop} {PO : Ending → World → Prop}
  (HK : ∀ x Z qv' ev' hi',x.size = 266 → x.getD 0 undef = .pointer (some ⟨cb,0,none⟩) → x.getD 4 undef = u 4 → x.getD 5 undef = .pointer (some ⟨nb,0,none⟩) → x.getD 9 undef = ev' → Nz code W0 cb cv w rb nb sb Z (pkF code es.length c).2 nm sv vi vo vv qv' ev' rank xs is os vs (qs ++ [es.getD (pkF code es.length c).1 dE]) (es.eraseIdx (pkF code es.length c).1) hi' → K ⟨x,[]⟩ Z) :
  Code.wp Tryz.prog (inC (inC (lfC (rtC 11 (Tryz.f21.body.getD .skip))))) (Exit.then K (Exit.inBlock 10 (Exit.then K1 (bodyPost Tryz.prog Tryz.f21 PO)))) (FrN u) X:=by
 obtain ⟨qa,qc,rfl⟩:=p.qz.q.slice
 have HP:=hide (pick_ok p.cu es.length (by omega) hok)
 have hlt:=pkF_lt code (m:=es.length) c hpos
 generalize pkF code es.length c = Q at *
 obtain ⟨j,c1⟩:=Q
 replace HP : Hid (Calls Tryz.prog 9 #[.pointer (some ⟨cb,0,none⟩),.int .i64 es.length] X (CuAns code W0 cb cv X (.int .i64 j) c1)):=HP
 replace hlt : j < es.length:=hlt
 have HKK : Hid (∀ x Z qv' ev' hi',x.size = 266 → x.getD 0 undef = .pointer (some ⟨cb,0,none⟩) → x.getD 4 undef = u 4 → x.getD 5 undef = .pointer (some ⟨nb,0,none⟩) → x.getD 9 undef = ev' → Nz code W0 cb cv w rb nb sb Z c1 nm sv vi vo vv qv' ev' rank xs is os vs (qs ++ [es.getD j dE]) (es.eraseIdx j) hi' → K ⟨x,[]⟩ Z):=hide HK
 have HN:=hide p
 have dpos : decide (0 < (es.length : Int)) = true:=decide_eq_true (by omega)
 have hjI : (j : Int) < (es.length : Int):=by omega
 clear HK p hok
 unfold FrN
 rw [h0,h5,h9]
 clear h0 h5 h9
 conv => arg 2; whnf
 go_wp2_with fail
 refine (uh HP).mono ?_
 rintro e X1 ⟨rfl,hc1,ht1⟩
 have hdr : Below X1.heap.size X1 X1.drew:=(Below.refl _ _).drew
 have p1:=(uh HN).go hc1 ht1
 obtain ⟨g',cap',a1,n1,z1,a2,n2,z2,s,a3,n3,z3,va,vn,vc,Z,hv,⟨r0,r1,r2,r3⟩,HR,hbz,HM,HC⟩:=(p1.below hdr).pushQ hlt (by omega) (by omega)
 simp only [Value.slice.injEq,Option.some.injEq,Addr.mk.injEq,true_and,and_true] at hv
 obtain ⟨rfl,rfl⟩:=hv
 have hz : X1.drew.heap.size = X1.heap.size:=by simp
 rw [hz] at HR
 replace HR : Hid ((Builtin.append_ #[41,41] 41 #[.slice qa qs.length qc,.slice (some ⟨X1.heap.size,0,none⟩) 1 1]).run Tryz.prog (X1.alloc (.cells #[.slice a1 n1 z1,.slice a2 n2 z2,.string s,.slice a3 n3 z3] 58)).drew = .ok (.slice va vn vc) Z):=HR
 have q0 : X1.cell? ⟨g,j * 4,none⟩ = some (.slice a1 n1 z1):=by simpa using r0
 have q1 : X1.cell? ⟨g,j * 4 + 1,none⟩ = some (.slice a2 n2 z2):=by simpa using r1
 have q2 : X1.cell? ⟨g,j * 4 + 2,none⟩ = some (.string s):=by simpa using r2
 have q3 : X1.cell? ⟨g,j * 4 + 3,none⟩ = some (.slice a3 n3 z3):=by simpa using r3
 have y0:=p1.nbx.cell (i:=4) (v:=.slice qa qs.length qc) rfl
 have y1:=World.new_ne X1 ⟨nb,4,none⟩ y0
 have y3:=(p1.below (((Below.refl _ _).alloc (Nat.le_refl _) (.cells #[.slice a1 n1 z1,.slice a2 n2 z2,.string s,.slice a3 n3 z3] 58)))).nbx.cell (i:=4) (v:=.slice qa qs.length qc) rfl
 have y2:=World.new_ne X1 ⟨g,j * 4,none⟩ q0
 have b0:=hbz.cell (i:=4) (v:=.slice qa qs.length qc) rfl
 have b1:=hbz.free 4
 have b2:=hbz.lt
 clear hc1 ht1 hdr p1 HN HP hz r0 r1 r2 r3 hbz
 go_wp2_with fail
 go_region_law (first | (refine step_append_run rfl _ _ 41 41 rfl rfl _ _ _ rfl rfl (uh HR) ?_; clear HR))
 all_goals
  rename_i K2 H2
  refine H2 _ _ ?_
  clear H2
  rw [frN_mk _ rfl]
  refine ecut_ok (ev:=ev) (uh HM) hlt hel (uh HC) rfl rfl ?_
  intro x Z9 ev' hi' hsz k0 k4 k5 k9 hn
  exact uh HKK x Z9 _ ev' hi' hsz k0 k4 k5 k9 hn
def slotL (s : Nat) (a : Act) : Nat:=match a.tmps.getD s undef with | .slice _ n _ => n | _ => 0
theorem slotL_sl {s : Nat} {x : Array Value} {a : Option Addr} {n c : Nat} (h : x.getD s undef = .slice a n c) : slotL s ⟨x,[]⟩ = n:=by
 unfold slotL
 rw [show (⟨x,[]⟩ : Act).tmps = x from rfl,h]
theorem Rk.some {α : Type} {sz lo hi : Nat} {E : ElF Tryz.prog (Raw sz)} {R : World → List Value → α → List Nat → Prop} {X : World} {v : Value} {xs : List α} (hr : Rk E R lo hi X v xs) (hp : 0 < xs.length) : ∃ g cap,v = .slice (some ⟨g,0,none⟩) xs.length cap:=by
 obtain ⟨css,subs,h1,h2,h3⟩:=hr
 have hl:=h2.len.1
 rcases h1.shape with ⟨_,h0⟩ | ⟨g,cap,hv,_⟩
 ·rw [h0] at hl
  simp at hl
  omega
 ·exact ⟨g,cap,by rw [hv,hl]⟩
def tyN : List Nat:=67 :: 58 :: tyS
def NdAns (code : List Int) (W0 : World) (cb : Nat) (cv : Value) (w : World) (x : DNode × Cur) (e : Ending) (w' : World) : Prop :=
 ∃ a1 n1 c1 a2 n2 c2 a3 n3 c3 a4 n4 c4 bs,e = .returned (.agg #[.string x.1.name,.slice a1 n1 c1,.slice a2 n2 c2,.slice a3 n3 c3,.slice a4 n4 c4]) ∧ TNode w' (rawNd x.1.name a1 n1 c1 a2 n2 c2 a3 n3 c3 a4 n4 c4).1 x.1 bs ∧ (∀ b,b ∈ bs → w.heap.size ≤ b ∧ b < w'.heap.size ∧ ∃ cur U,U ∈ tyN ∧ w'.heap[b]? = some (Obj.cells cur U (0,0))) ∧ CuAt code W0 cb cv w' x.2 ∧ Tr cb w w'
set_option maxRecDepth 1000000 in
theorem perm_exit {u : Nat → Value} {a : Option Addr} {cap : Nat} {Z : World} (h9 : u 9 = .slice a 0 cap) {K K1 : Act → World → Prop} {PO : Ending → World → Prop} (HK : ∀ x : Array Value,x.size = 266 → x.getD 0 undef = u 0 → x.getD 4 undef = u 4 → x.getD 5 undef = u 5 → K1 ⟨x,[]⟩ Z) : Code.wp Tryz.prog (inC (inC (lfC (rtC 11 (Tryz.f21.body.getD .skip))))) (Exit.then K (Exit.inBlock 10 (Exit.then K1 (bodyPost Tryz.prog Tryz.f21 PO)))) (FrN u) Z:=by
 have HKK:=hide HK
 clear HK
 unfold FrN
 rw [h9]
 conv => arg 2; whnf
 clear h9
 go_wp2
 exact uh HKK _ rfl rfl rfl rfl
set_option maxRecDepth 1000000 in
theorem perm_loop {code : List Int} {W0 : World} {cb : Nat} {cv : Value} {w : World} {rb nb sb : Nat} {X : World} {c : Cur} {nm : ByteArray} {sv vi vo vv qv ev : Value} {rank : Nat} {xs is os vs : List DVar} {qs es : List DEq} {hi : Nat} (p : Nz code W0 cb cv w rb nb sb X c nm sv vi vo vv qv ev rank xs is os vs qs es hi) (hel : es.length + qs.length ≤ 90) (hok : okB es.length c)
  {u : Nat → Value} (h0 : u 0 = .pointer (some ⟨cb,0,none⟩)) (h5 : u 5 = .pointer (some ⟨nb,0,none⟩)) (h9 : u 9 = ev) {K1 : Act → World → Prop} {PO : Ending → World → Prop}
  (HK : ∀ x Z qv9 ev9 hi9,x.size = 266 → x.getD 4 undef = u 4 → x.getD 5 undef = .pointer (some ⟨nb,0,none⟩) → Nz code W0 cb cv w rb nb sb Z (pmF code es.length es qs c).2 nm sv vi vo vv qv9 ev9 rank xs is os vs (pmF code es.length es qs c).1 [] hi9 → K1 ⟨x,[]⟩ Z) :
  Code.wp Tryz.prog (.loop (inC (inC (lfC (rtC 11 (Tryz.f21.body.getD .skip)))))) (Exit.inBlock 10 (Exit.then K1 (bodyPost Tryz.prog Tryz.f21 PO))) (FrN u) X:=by
 refine wp_loop (fun a' wr => ∃ (x : Array Value) (c9 : Cur) (qv9 ev9 : Value) (qs9 es9 : List DEq) (hi9 : Nat),a' = ⟨x,[]⟩ ∧ x.size = 266 ∧ x.getD 0 undef = .pointer (some ⟨cb,0,none⟩) ∧ x.getD 4 undef = u 4 ∧ x.getD 5 undef = .pointer (some ⟨nb,0,none⟩) ∧ x.getD 9 undef = ev9 ∧ es9.length + qs9.length ≤ 90 ∧ okB es9.length c9 ∧ pmF code es9.length es9 qs9 c9 = pmF code es.length es qs c ∧ Nz code W0 cb cv w rb nb sb wr c9 nm sv vi vo vv qv9 ev9 rank xs is os vs qs9 es9 hi9) (fun a' _ => slotL 9 a') ?_ ?_
 ·exact ⟨_,c,qv,ev,qs,es,hi,rfl,rfl,h0,rfl,h5,h9,hel,hok,rfl,p⟩
 ·rintro a' wr ⟨x,c9,qv9,ev9,qs9,es9,hi9,rfl,hsz,k0,k4,k5,k9,hl,hk,hpm,hN⟩
  by_cases hpos : 0 < es9.length
  ·obtain ⟨g,cap,rfl⟩:=hN.qz.e.some hpos
   rw [slotL_sl k9,frN_mk x hsz]
   refine perm_round (ev:=ev) hN hpos (by omega) (by omega) (hk.less hpos) k0 k5 k9 ?_
   intro y Z qv' ev' hi' hy j0 j4 j5 j9 hn
   have hlt:=pkF_lt code (m:=es9.length) c9 hpos
   have hln : (es9.eraseIdx (pkF code es9.length c9).1).length = es9.length - 1:=by rw [List.length_eraseIdx,if_pos hlt]
   obtain ⟨m,hm⟩ : ∃ m,es9.length = m + 1:=⟨es9.length - 1,by omega⟩
   refine ⟨⟨y,_,qv',ev',_,_,hi',rfl,hy,j0,j4.trans k4,j5,j9,?_,?_,?_,hn⟩,?_⟩
   ·rw [hln,List.length_append,List.length_singleton]
    omega
   ·rw [hln,hm,Nat.add_sub_cancel,← hm]
    exact pkF_ok (by rw [← hm]; exact hk)
   ·rw [← hpm,hln,hm,Nat.add_sub_cancel]
    conv => rhs; rw [pmF]
    rw [← hm]
   ·obtain ⟨a2,c2,he⟩:=hn.qz.e.slice
    rw [he] at j9
    rw [slotL_sl j9,hln]
    omega
  ·have e : es9 = []:=List.eq_nil_of_length_eq_zero (by omega)
   subst e
   obtain ⟨a2,c2,he⟩:=hN.qz.e.slice
   rw [he] at k9
   rw [slotL_sl k9,frN_mk x hsz]
   refine perm_exit k9 ?_
   intro y hy j0 j4 j5
   have hp2 : (qs9,c9) = pmF code es.length es qs c:=hpm
   refine HK y wr qv9 ev9 hi9 hy (j4.trans k4) (j5.trans k5) ?_
   rw [← hp2]
   exact hN
theorem Nz.ans {code : List Int} {W0 : World} {cb : Nat} {cv : Value} {w : World} {rb nb sb : Nat} {X : World} {c : Cur} {nm : ByteArray} {sv vi vo vv qv ev : Value} {rank : Nat} {xs is os vs : List DVar} {qs es : List DEq} {hi : Nat} (p : Nz code W0 cb cv w rb nb sb X c nm sv vi vo vv qv ev rank xs is os vs qs es hi) (h1 : is.length ≤ 100) (h2 : os.length ≤ 100) (h3 : vs.length ≤ 100) (h4 : qs.length ≤ 100) (hnm : Len nm.size) : NdAns code W0 cb cv w (⟨nm,is,os,vs,qs⟩,c) (.returned (.agg #[.string nm,vi,vo,vv,qv])) X:=by
 obtain ⟨b1,t1,s1⟩:=p.vz.i.rowT (show is.length * 48 ≤ _ by omega) p.hl
 obtain ⟨b2,t2,s2⟩:=p.vz.o.rowT (show os.length * 48 ≤ _ by omega) p.hl
 obtain ⟨b3,t3,s3⟩:=p.vz.v.rowT (show vs.length * 48 ≤ _ by omega) p.hl
 obtain ⟨b4,t4,s4⟩:=p.qz.q.rowT (show qs.length * 88 ≤ _ by omega) p.hl
 obtain ⟨a1,c1,rfl⟩:=p.vz.i.slice
 obtain ⟨a2,c2,rfl⟩:=p.vz.o.slice
 obtain ⟨a3,c3,rfl⟩:=p.vz.v.slice
 obtain ⟨a4,c4,rfl⟩:=p.qz.q.slice
 have hv : ∀ U,U ∈ rVar.T :: tyS → U ∈ tyN:=by decide
 have he : ∀ U,U ∈ rEq.T :: tyS → U ∈ tyN:=by decide
 have up : ∀ {L : List Nat} {b : Nat},(∀ U,U ∈ L → U ∈ tyN) → (w.heap.size ≤ b ∧ b < X.heap.size ∧ ∃ cur U,U ∈ L ∧ X.heap[b]? = some (Obj.cells cur U (0,0))) → w.heap.size ≤ b ∧ b < X.heap.size ∧ ∃ cur U,U ∈ tyN ∧ X.heap[b]? = some (Obj.cells cur U (0,0)):=fun hL ⟨g1,g2,cur,U,g3,g4⟩ => ⟨g1,g2,cur,U,hL U g3,g4⟩
 refine ⟨a1,_,c1,a2,_,c2,a3,_,c3,a4,_,c4,b1 ++ b2 ++ b3 ++ b4,rfl,⟨_,_,_,_,b1,b2,b3,b4,rfl,hnm,t1,t2,t3,t4,rfl⟩,fun b hb => ?_,p.cu,p.tr⟩
 rcases List.mem_append.1 hb with hb | hb
 ·rcases List.mem_append.1 hb with hb | hb
  ·rcases List.mem_append.1 hb with hb | hb
   ·exact up hv (s1 b hb)
   ·exact up hv (s2 b hb)
  ·exact up hv (s3 b hb)
 ·exact up he (s4 b hb)
end Go.Proofs.YtajabbnlbopcbaaGreatDoor
