import Derived.Test.YtfioeoihociilaaGreatData
import Derived.Test.YtfioeoihociilaaGreatProg
import Derived.WalkLawsBesides
import Derived.Deep.LoopGhost
namespace Go.Proofs.YtfioeoihociilaaGreat
open Go.RowKit
def putCells (w : World) (b : Nat) : Nat → List Value → World
 | _,[] => w
 | i,c :: cs => (putCells w b (i + 1) cs).setCell ⟨b,i,none⟩ c
def putUp (w : World) (b : Nat) : Nat → List Value → World
 | _,[] => w
 | i,c :: cs => putUp (w.setCell ⟨b,i,none⟩ c) b (i + 1) cs
theorem putUp_row {w : World} {b n : Nat} (h : RowAt w b n) (i : Nat) (cs : List Value) : RowAt (putUp w b i cs) b n:=by
 induction cs generalizing w i with
 | nil => exact h
 | cons c cs ih => exact ih (h.set i c) (i + 1)
theorem cell_set_other (w : World) (b i : Nat) (u : Value) (p : Addr) (h : p.block ≠ b ∨ p.off ≠ i) : (w.setCell ⟨b,i,none⟩ u).cell? p = w.cell? p:=by
 simp only [World.cell?,World.setCell,Array.getElem?_modify]
 by_cases hb : p.block = b
 ·have hi : p.off ≠ i:=by rcases h with h | h; exact absurd hb h; exact h
  subst hb
  simp only [if_true]
  cases hh : w.heap[p.block]? with
  | none => simp
  | some o =>
   cases o with
   | cells c t f =>
    simp [Ne.symm hi]
   | _ => simp
 ·rw [if_neg (fun h => hb h.symm)]
theorem putUp_out (w : World) (b i : Nat) (cs : List Value) (p : Addr) (h : p.block ≠ b ∨ p.off < i ∨ i + cs.length ≤ p.off) : (putUp w b i cs).cell? p = w.cell? p:=by
 induction cs generalizing w i with
 | nil => rfl
 | cons c cs ih =>
  simp only [putUp]
  rw [ih _ _ (by simp only [List.length_cons] at h; omega)]
  exact cell_set_other _ _ _ _ _ (by simp only [List.length_cons] at h; omega)
theorem cell_set_self {w : World} {b n : Nat} (h : RowAt w b n) {i : Nat} (hi : i < n) (u : Value) : (w.setCell ⟨b,i,none⟩ u).cell? ⟨b,i,none⟩ = some u:=by
 obtain ⟨c,t,hb,hn⟩:=h
 simp [World.cell?,World.setCell,Array.getElem?_modify,hb,hn,hi]
theorem putUp_in {w : World} {b n : Nat} (h : RowAt w b n) (i : Nat) (cs : List Value) (hl : i + cs.length ≤ n) (j : Nat) (hj : j < cs.length) : (putUp w b i cs).cell? ⟨b,i + j,none⟩ = some cs[j]:=by
 induction cs generalizing w i j with
 | nil => exact absurd hj (Nat.not_lt_zero _)
 | cons c cs ih =>
  simp only [List.length_cons] at hl hj
  simp only [putUp]
  cases j with
  | zero =>
   rw [putUp_out _ _ _ _ _ (Or.inr (Or.inl (by simp)))]
   exact cell_set_self h (by omega) c
  | succ j =>
   have:=ih (h.set i c) (i + 1) (by omega) j (by omega)
   rw [show i + (j + 1) = i + 1 + j from by omega]
   simpa using this
theorem putUp_kept {lo hi : Nat} {w w' : World} (h : Kept lo hi w w') {b : Nat} (hb : b < lo) (i : Nat) (cs : List Value) : Kept lo hi w (putUp w' b i cs):=by
 induction cs generalizing w' i with
 | nil => exact h
 | cons c cs ih => exact ih (h.setCell (p:=⟨b,i,none⟩) hb c) (i + 1)
theorem putUp_below {B : Nat} {w w' : World} (h : Below B w w') {b : Nat} (hb : B ≤ b) (i : Nat) (cs : List Value) : Below B w (putUp w' b i cs):=by
 induction cs generalizing w' i with
 | nil => exact h
 | cons c cs ih => exact ih (h.setCell (p:=⟨b,i,none⟩) hb c) (i + 1)
theorem fill_step {α : Type} {sz : Nat} {R : Nat → World → List Value → α → Prop} (hK : KeptBy R) (hL : Lowers R) {w wr w1 : World} {b : Nat} {xs : List α} {k : Nat} (hlt : k < xs.length) {B : Nat} (hB : B ≤ b) (hbl : Below B w wr)
  (hrow : RowAt wr b (xs.length * sz)) (hfil : Filled sz R (b + 1) wr b xs k) (hb1 : Below wr.heap.size wr w1) {cs : List Value} (hcs : cs.length = sz) (hR : R wr.heap.size w1 cs xs[k]) :
  Below B w (putUp w1 b (k * sz) cs) ∧ RowAt (putUp w1 b (k * sz) cs) b (xs.length * sz) ∧ Filled sz R (b + 1) (putUp w1 b (k * sz) cs) b xs (k + 1):=by
 have hrow1:=hrow.below hb1
 have hblt:=hrow.lt
 have hB' : B ≤ wr.heap.size:=by omega
 refine ⟨putUp_below (hbl.trans (hb1.mono hB')) hB _ _,putUp_row hrow1 _ _,fun i hi hik => ?_⟩
 by_cases e : i = k
 ·subst e
  have hfit : i * sz + cs.length ≤ xs.length * sz:=by
   rw [hcs]
   have : (i + 1) * sz ≤ xs.length * sz:=Nat.mul_le_mul_right _ hlt
   rw [Nat.add_mul] at this
   omega
  exact ⟨cs,hcs,fun j hj => putUp_in hrow1 _ _ hfit j hj,hK _ _ _ _ _ (putUp_kept (Kept.refl _ _ _) (Nat.lt_succ_self _) _ _) (hL _ _ _ _ _ (by omega) hR)⟩
 ·obtain ⟨cs',hcs',hc',hR'⟩:=hfil i hi (by omega)
  refine ⟨cs',hcs',fun j hj => ?_,hK _ _ _ _ _ (putUp_kept (Kept.of_below hb1) (Nat.lt_succ_self _) _ _) hR'⟩
  have hlo : i * sz + j < k * sz:=by
   have : (i + 1) * sz ≤ k * sz:=Nat.mul_le_mul_right _ (by omega)
   rw [Nat.add_mul] at this
   omega
  rw [putUp_out _ _ _ _ _ (Or.inr (Or.inl hlo)),hb1.cell (p:=⟨b,_,none⟩) hblt]
  exact hc' j hj
structure BelF (B : Nat) (w w' : World) : Prop where
 below : Below B w w'
 free : ∀ k,B ≤ k → k < w'.heap.size → ∃ c t,w'.heap[k]? = some (.cells c t (0,0))
theorem BelF.refl (w : World) : BelF w.heap.size w w:=⟨Below.refl _ _,fun k h1 h2 => absurd h2 (by omega)⟩
theorem BelF.alloc {B : Nat} {a w : World} (h : BelF B a w) (hB : B ≤ w.heap.size) (c : Array Value) {t : TypeId} : BelF B a (w.alloc (.cells c t)):=by
 refine ⟨h.below.alloc hB _,fun k h1 h2 => ?_⟩
 by_cases e : k < w.heap.size
 ·obtain ⟨c1,t1,h3⟩:=h.free k h1 e
  exact ⟨c1,t1,(Below.heap_alloc _ _ _ e).trans h3⟩
 ·have e2 : k = w.heap.size:=by simp at h2; omega
  subst e2
  exact ⟨c,t,by show (w.heap.push _)[w.heap.size]? = _; rw [Array.getElem?_push_size]⟩
theorem BelF.setCell {B : Nat} {a w : World} (h : BelF B a w) {p : Addr} (hp : B ≤ p.block) (u : Value) : BelF B a (w.setCell p u):=by
 refine ⟨h.below.setCell hp _,fun k h1 h2 => ?_⟩
 have h2' : k < w.heap.size:=by simpa [World.setCell] using h2
 obtain ⟨c1,t1,h3⟩:=h.free k h1 h2'
 by_cases e : k = p.block
 ·subst e
  refine ⟨if p.spot.isSome then c1 else c1.setIfInBounds p.off u,t1,?_⟩
  simp only [World.setCell,Array.getElem?_modify,if_true,h3,Option.map_some]
 ·exact ⟨c1,t1,(Below.heap_setCell _ _ _ _ e).trans h3⟩
theorem BelF.and {B : Nat} {a b c : World} (h : BelF B a b) (k : BelF b.heap.size b c) (hB : B ≤ b.heap.size) : BelF B a c:=by
 refine ⟨h.below.trans (k.below.mono hB),fun i h1 h2 => ?_⟩
 by_cases e : i < b.heap.size
 ·obtain ⟨c1,t1,h3⟩:=h.free i h1 e
  exact ⟨c1,t1,(k.below.block i e).trans h3⟩
 ·exact k.free i (by omega) h2
theorem putUp_belF {B : Nat} {w w' : World} (h : BelF B w w') {b : Nat} (hb : B ≤ b) (i : Nat) (cs : List Value) : BelF B w (putUp w' b i cs):=by
 induction cs generalizing w' i with
 | nil => exact h
 | cons c cs ih => exact ih (h.setCell (p:=⟨b,i,none⟩) hb c) (i + 1)
theorem fill_stepF {α : Type} {sz : Nat} {R : Nat → World → List Value → α → Prop} (hK : KeptBy R) (hL : Lowers R) {w wr w1 : World} {b : Nat} {xs : List α} {k : Nat} (hlt : k < xs.length) {B : Nat} (hB : B ≤ b) (hbl : BelF B w wr)
  (hrow : RowAt wr b (xs.length * sz)) (hfil : Filled sz R (b + 1) wr b xs k) (hb1 : BelF wr.heap.size wr w1) {cs : List Value} (hcs : cs.length = sz) (hR : R wr.heap.size w1 cs xs[k]) :
  BelF B w (putUp w1 b (k * sz) cs) ∧ RowAt (putUp w1 b (k * sz) cs) b (xs.length * sz) ∧ Filled sz R (b + 1) (putUp w1 b (k * sz) cs) b xs (k + 1):=by
 have hblt:=hrow.lt
 have h:=fill_step hK hL hlt hB hbl.below hrow hfil hb1.below hcs hR
 exact ⟨putUp_belF (hbl.and hb1 (by omega)) hB _ _,h.2⟩
theorem fill_none {α : Type} (sz : Nat) (R : Nat → World → List Value → α → Prop) (lo : Nat) (w : World) (b : Nat) (xs : List α) : Filled sz R lo w b xs 0:=fun _ _ h => absurd h (Nat.not_lt_zero _)
theorem fill_done {α : Type} {sz byt : Nat} {R : Nat → World → List Value → α → Prop} (hL : Lowers R) {wr : World} {b : Nat} {xs : List α} (hb : b < wr.heap.size) (h1 : Len (xs.length * byt)) (h2 : Len xs.length) (hfil : Filled sz R (b + 1) wr b xs xs.length) :
  SlAt sz byt R b wr (.slice (some ⟨b,0,none⟩) xs.length xs.length) xs:=by
 refine ⟨_,_,rfl,⟨h1,Nat.le_refl _⟩,h2,fun i hi => ?_⟩
 obtain ⟨cs,hcs,hc,hR⟩:=hfil i hi hi
 exact ⟨b,0,cs,rfl,Nat.le_refl _,hb,hcs,fun j hj => by rw [Nat.zero_add]; exact hc j hj,hL _ _ _ _ _ (Nat.le_succ _) hR⟩
end Go.Proofs.YtfioeoihociilaaGreat
namespace Go.Proofs.YtfioeoihociilaaGreat
open Go.RowKit
set_option linter.unusedSimpArgs false
set_option linter.unusedVariables false
def ToPost {α : Type} (R : Nat → World → List Value → α → Prop) (w : World) (x : α) (e : Ending) (w' : World) : Prop :=
 ∃ cs : List Value,e = .returned (.agg cs.toArray) ∧ R w.heap.size w' cs x ∧ BelF w.heap.size w w'
def ToPostS {α : Type} (sz byt : Nat) (R : Nat → World → List Value → α → Prop) (w : World) (xs : List α) (e : Ending) (w' : World) : Prop :=
 ∃ v : Value,e = .returned v ∧ SlAt sz byt R w.heap.size w' v xs ∧ BelF w.heap.size w w'
def ToPostB {α : Type} (R : Nat → World → List Value → α → Prop) (w : World) (x : α) (e : Ending) (w' : World) : Prop :=
 ∃ cs : List Value,e = .returned (.agg cs.toArray) ∧ R w.heap.size w' cs x ∧ Below w.heap.size w w'
theorem ToPost.weak {α : Type} {R : Nat → World → List Value → α → Prop} {w : World} {x : α} {e : Ending} {w' : World} (h : ToPost R w x e w') : ToPostB R w x e w':=by
 obtain ⟨cs,h1,h2,h3⟩:=h
 exact ⟨cs,h1,h2,h3.below⟩
set_option maxHeartbeats 400000 in
theorem toCond_ok (c : DCond) (w : World) (hs : Len c.name.size) :
  Calls Tryz.prog 126 #[.agg #[.string c.name,.bool c.on]] w (ToPost RCond w c):=by
 obtain ⟨s,on⟩:=c
 simp only at hs
 have HS:=hide hs
 clear hs
 go_enter Tryz.func126,Tryz.ntmps126
 go_wp2
 exact bodyPost_ret (v:=.agg #[.string s,.bool on]) (by simp [results,Tryz.results126,go_sem]) rfl ⟨[.string s,.bool on],rfl,⟨rfl,uh HS⟩,(((BelF.refl _).alloc (Nat.le_refl _) _).alloc (by simp) _).alloc (by simp; omega) _⟩
set_option maxHeartbeats 400000 in
theorem toItem_ok (t : DItem) (w : World) (hs : Len t.name.size) (ho : I64 t.op) (hv : I64 t.val) :
  Calls Tryz.prog 127 #[.agg #[.int .i64 t.op,.int .i64 t.val,.string t.name]] w (ToPost RItem w t):=by
 obtain ⟨op,val,s⟩:=t
 simp only at hs ho hv
 have HS:=hide hs
 have HO:=hide ho
 have HV:=hide hv
 clear hs ho hv
 go_enter Tryz.func127,Tryz.ntmps127
 go_wp2
 exact bodyPost_ret (v:=.agg #[.int .i64 op,.int .i64 val,.string s]) (by simp [results,Tryz.results127,go_sem]) rfl ⟨[.int .i64 op,.int .i64 val,.string s],rfl,⟨rfl,uh HS,uh HO,uh HV⟩,(((BelF.refl _).alloc (Nat.le_refl _) _).alloc (by simp) _).alloc (by simp; omega) _⟩
theorem info_toCondS : (Tryz.prog.info? 65).map (fun i => (i.zero,i.size,i.bytes)) = some (some (.agg #[.string ByteArray.empty,.bool false]),2,24):=by kernel_rfl
set_option maxHeartbeats 400000 in
theorem toCondS_ok (xs : List DCond) (v : Value) (w : World) (hv : SlAt 2 24 RCond 0 w v xs) :
  Calls Tryz.prog 102 #[v] w (ToPostS 2 24 RCond w xs):=by
 obtain ⟨a,cap,rfl,⟨hnb,_⟩,hn,hx⟩:=hv
 have HNB:=hide hnb
 have HN:=hide hn
 unfold Len at hn hnb
 have HX:=hide hx
 clear hx
 have hmk:=make_rows (P:=Tryz.prog) 61 65 _ _ _ Tryz.underlying61 info_toCondS xs.length hnb hn
 clear hnb
 go_enter Tryz.func102,Tryz.ntmps102
 go_wp2
 go_loopg [4] xs.length (fun g i wr => ∃ (k : Nat),k ≤ xs.length ∧ g = xs.length - k ∧ i = .int .i64 k ∧ BelF w.heap.size w wr ∧ RowAt wr w.heap.size (xs.length * 2) ∧ Filled 2 RCond (w.heap.size + 1) wr w.heap.size xs k)
 case atStart => exact ⟨0,Nat.zero_le _,by omega,rfl,(BelF.refl _).alloc (Nat.le_refl _) _,RowAt.made _ _ _ _,fill_none _ _ _ _ _ _⟩
 case round =>
  obtain ⟨k,hk,hg,rfl,hbl,hrow,hfil⟩:=hrel
  clear hmk
  have HG:=hide hg
  have HF:=hide hfil
  clear hg hfil
  by_cases hlt : k < xs.length
  ·obtain ⟨b,o,cs,rfl,_,hb,hcs,hc,hR⟩:=uh HX k hlt
   have hR:=RCond_kept.stays _ _ _ _ _ hbl.below hR
   have hc : ∀ j (hj : j < cs.length),wr.cell? ⟨b,o + k * 2 + j,none⟩ = some cs[j]:=fun j hj => by rw [hbl.below.cell (p:=⟨b,_,none⟩) hb]; exact hc j hj
   obtain ⟨rfl,hsn⟩:=hR
   have c0:=hc 0 (by simp)
   have c1:=hc 1 (by simp)
   simp only [Nat.mul_one,Nat.add_zero,List.getElem_cons_zero,List.getElem_cons_succ] at c0 c1
   clear hc hcs
   go_wp2_with fail
   refine (toCond_ok _ _ hsn).mono ?_
   rintro e w1 ⟨cs',rfl,hR1,hb1⟩
   have hrow1:=hrow.below hb1.below
   have hR1':=hR1
   obtain ⟨rfl,hsn1⟩:=hR1
   obtain ⟨x0,d0⟩:=hrow1.cell (i:=k * 2) (by omega)
   have f0:=hrow1.frozen (k * 2)
   obtain ⟨x1,d1⟩:=hrow1.cell (i:=k * 2 + 1) (by omega)
   have f1:=hrow1.frozen (k * 2 + 1)
   have step:=fill_stepF RCond_kept RCond_lowers hlt (Nat.le_refl _) hbl hrow (uh HF) hb1 rfl hR1'
   have ST:=hide step
   clear c0 c1 step hR1' hrow1
   go_wp2
   go_roundg (xs.length - (k + 1))
   case measure => have:=uh HG; omega
   case rel => exact ⟨k + 1,by omega,rfl,by go_num,uh ST⟩
  ·have e : k = xs.length:=by omega
   have hb0:=hrow.lt
   have D:=hide (fill_done RCond_lowers hb0 (uh HNB) (uh HN) (by have:=uh HF; rwa [e] at this))
   clear hrow
   go_wp2
   go_ret
   exact ⟨_,rfl,uh D,hbl⟩
theorem info_toItemS : (Tryz.prog.info? 103).map (fun i => (i.zero,i.size,i.bytes)) = some (some (.agg #[.int .i64 0,.int .i64 0,.string ByteArray.empty]),3,32):=by kernel_rfl
set_option maxHeartbeats 400000 in
theorem toItemS_ok (xs : List DItem) (v : Value) (w : World) (hv : SlAt 3 32 RItem 0 w v xs) :
  Calls Tryz.prog 104 #[v] w (ToPostS 3 32 RItem w xs):=by
 obtain ⟨a,cap,rfl,⟨hnb,_⟩,hn,hx⟩:=hv
 have HNB:=hide hnb
 have HN:=hide hn
 unfold Len at hn hnb
 have HX:=hide hx
 clear hx
 have hmk:=make_rows (P:=Tryz.prog) 67 103 _ _ _ Tryz.underlying67 info_toItemS xs.length hnb hn
 clear hnb
 go_enter Tryz.func104,Tryz.ntmps104
 go_wp2
 go_loopg [4] xs.length (fun g i wr => ∃ (k : Nat),k ≤ xs.length ∧ g = xs.length - k ∧ i = .int .i64 k ∧ BelF w.heap.size w wr ∧ RowAt wr w.heap.size (xs.length * 3) ∧ Filled 3 RItem (w.heap.size + 1) wr w.heap.size xs k)
 case atStart => exact ⟨0,Nat.zero_le _,by omega,rfl,(BelF.refl _).alloc (Nat.le_refl _) _,RowAt.made _ _ _ _,fill_none _ _ _ _ _ _⟩
 case round =>
  obtain ⟨k,hk,hg,rfl,hbl,hrow,hfil⟩:=hrel
  clear hmk
  have HG:=hide hg
  have HF:=hide hfil
  clear hg hfil
  by_cases hlt : k < xs.length
  ·obtain ⟨b,o,cs,rfl,_,hb,hcs,hc,hR⟩:=uh HX k hlt
   have hR:=RItem_kept.stays _ _ _ _ _ hbl.below hR
   have hc : ∀ j (hj : j < cs.length),wr.cell? ⟨b,o + k * 3 + j,none⟩ = some cs[j]:=fun j hj => by rw [hbl.below.cell (p:=⟨b,_,none⟩) hb]; exact hc j hj
   obtain ⟨rfl,hsn,ho,hv⟩:=hR
   have c0:=hc 0 (by simp)
   have c1:=hc 1 (by simp)
   have c2:=hc 2 (by simp)
   simp only [Nat.mul_one,Nat.add_zero,List.getElem_cons_zero,List.getElem_cons_succ] at c0 c1 c2
   clear hc hcs
   go_wp2_with fail
   refine (toItem_ok _ _ hsn ho hv).mono ?_
   rintro e w1 ⟨cs',rfl,hR1,hb1⟩
   have hrow1:=hrow.below hb1.below
   have hR1':=hR1
   obtain ⟨rfl,hsn1,ho1,hv1⟩:=hR1
   obtain ⟨x0,d0⟩:=hrow1.cell (i:=k * 3) (by omega)
   have f0:=hrow1.frozen (k * 3)
   obtain ⟨x1,d1⟩:=hrow1.cell (i:=k * 3 + 1) (by omega)
   have f1:=hrow1.frozen (k * 3 + 1)
   obtain ⟨x2,d2⟩:=hrow1.cell (i:=k * 3 + 2) (by omega)
   have f2:=hrow1.frozen (k * 3 + 2)
   have step:=fill_stepF RItem_kept RItem_lowers hlt (Nat.le_refl _) hbl hrow (uh HF) hb1 rfl hR1'
   have ST:=hide step
   clear c0 c1 c2 step hR1' hrow1
   go_wp2
   go_roundg (xs.length - (k + 1))
   case measure => have:=uh HG; omega
   case rel => exact ⟨k + 1,by omega,rfl,by go_num,uh ST⟩
  ·have e : k = xs.length:=by omega
   have hb0:=hrow.lt
   have D:=hide (fill_done RItem_lowers hb0 (uh HNB) (uh HN) (by have:=uh HF; rwa [e] at this))
   clear hrow
   go_wp2
   go_ret
   exact ⟨_,rfl,uh D,hbl⟩
set_option maxHeartbeats 1000000 in
theorem toVar_ok (x : DVar) (a1 : Value) (w : World) (hs : Len x.name.size) (ht : I64 x.type) (h1 : SlAt 2 24 RCond 0 w a1 x.clock) :
  Calls Tryz.prog 79 #[.agg #[.string x.name,.int .i64 x.type,a1]] w (ToPost RVar w x):=by
 obtain ⟨s,ty,clk⟩:=x
 simp only at hs ht h1
 have Hhs:=hide hs
 clear hs
 have Hht:=hide ht
 clear ht
 have H1:=hide h1
 clear h1
 go_enter Tryz.func79,Tryz.ntmps79
 go_wp2_with fail
 refine (toCondS_ok clk _ _ ?_).mono ?_
 ·exact (uh H1).stays RCond_kept ((((Below.refl _ _).alloc (Nat.le_refl _) _).alloc (by simp) _).alloc (by simp <;> omega) _)
 rintro e w1 ⟨v1,rfl,hS,hb⟩
 obtain ⟨b1,cap1,rfl⟩:=hS.shape
 obtain ⟨hc1,hf1⟩:=bcell hb.below
 have hz:=hb.below.size
 simp only [World.size_alloc,Deep.nblk_setCell] at hz hc1 hf1
 have HS1:=hide (hS.lower RCond_lowers (lo':=w.heap.size + 1 + 1 + 1) (by simp <;> omega))
 have HB1 : Hid (BelF w.heap.size w w1):=((((BelF.refl _).alloc (Nat.le_refl _) _).alloc (by simp) _).alloc (by simp <;> omega) _).and hb (by simp <;> omega)
 have hza1 : w.heap.size < w1.heap.size:=by omega
 have hzb1 : w.heap.size + 1 < w1.heap.size:=by omega
 have hzc1 : w.heap.size + 1 + 1 < w1.heap.size:=by omega
 clear hS hb hz
 go_wp2
 refine bodyPost_ret (v:=.agg #[.string s,.int .i64 ty,.slice b1 clk.length cap1]) (by simp [results,Tryz.results79,go_sem,hc1,hza1,hzb1,hzc1]) rfl ⟨[.string s,.int .i64 ty,.slice b1 clk.length cap1],rfl,⟨_,rfl,uh Hhs,uh Hht,?_⟩,?_⟩
 ·exact ((uh HS1).kept RCond_kept (by repeat (first | refine Kept.setCell ?_ (by simp <;> omega) _ | exact Kept.refl _ _ _))).lower RCond_lowers (by omega)
 ·repeat (first | refine BelF.setCell ?_ (by simp <;> omega) _ | exact uh HB1)
theorem info_toVarS : (Tryz.prog.info? 63).map (fun i => (i.zero,i.size,i.bytes)) = some (some (.agg #[.string ByteArray.empty,.int .i64 0,.slice none 0 0]),3,48):=by kernel_rfl
set_option maxHeartbeats 400000 in
theorem toVarS_ok (xs : List DVar) (v : Value) (w : World) (hv : SlAt 3 48 RVar 0 w v xs) :
  Calls Tryz.prog 54 #[v] w (ToPostS 3 48 RVar w xs):=by
 obtain ⟨a,cap,rfl,⟨hnb,_⟩,hn,hx⟩:=hv
 have HNB:=hide hnb
 have HN:=hide hn
 unfold Len at hn hnb
 have HX:=hide hx
 clear hx
 have hmk:=make_rows (P:=Tryz.prog) 42 63 _ _ _ Tryz.underlying42 info_toVarS xs.length hnb hn
 clear hnb
 go_enter Tryz.func54,Tryz.ntmps54
 go_wp2
 go_loopg [4] xs.length (fun g i wr => ∃ (k : Nat),k ≤ xs.length ∧ g = xs.length - k ∧ i = .int .i64 k ∧ BelF w.heap.size w wr ∧ RowAt wr w.heap.size (xs.length * 3) ∧ Filled 3 RVar (w.heap.size + 1) wr w.heap.size xs k)
 case atStart => exact ⟨0,Nat.zero_le _,by omega,rfl,(BelF.refl _).alloc (Nat.le_refl _) _,RowAt.made _ _ _ _,fill_none _ _ _ _ _ _⟩
 case round =>
  obtain ⟨k,hk,hg,rfl,hbl,hrow,hfil⟩:=hrel
  clear hmk
  have HG:=hide hg
  have HF:=hide hfil
  clear hg hfil
  by_cases hlt : k < xs.length
  ·obtain ⟨b,o,cs,rfl,_,hb,hcs,hc,hR⟩:=uh HX k hlt
   have hR:=RVar_kept.stays _ _ _ _ _ hbl.below hR
   have hc : ∀ j (hj : j < cs.length),wr.cell? ⟨b,o + k * 3 + j,none⟩ = some cs[j]:=fun j hj => by rw [hbl.below.cell (p:=⟨b,_,none⟩) hb]; exact hc j hj
   obtain ⟨cl,rfl,hsn,hty,hcl⟩:=hR
   have HCL:=hide hcl
   clear hcl
   have c0:=hc 0 (by simp)
   have c1:=hc 1 (by simp)
   have c2:=hc 2 (by simp)
   simp only [Nat.mul_one,Nat.add_zero,List.getElem_cons_zero,List.getElem_cons_succ] at c0 c1 c2
   clear hc hcs
   go_wp2_with fail
   refine (toVar_ok _ _ _ hsn hty (uh HCL)).mono ?_
   rintro e w1 ⟨cs',rfl,hR1,hb1⟩
   have hrow1:=hrow.below hb1.below
   have hR1':=hR1
   obtain ⟨cl1,rfl,hsn1,hty1,hcl1⟩:=hR1
   obtain ⟨aa1,ca1,rfl⟩:=hcl1.shape
   clear hcl1
   obtain ⟨x0,d0⟩:=hrow1.cell (i:=k * 3) (by omega)
   have f0:=hrow1.frozen (k * 3)
   obtain ⟨x1,d1⟩:=hrow1.cell (i:=k * 3 + 1) (by omega)
   have f1:=hrow1.frozen (k * 3 + 1)
   obtain ⟨x2,d2⟩:=hrow1.cell (i:=k * 3 + 2) (by omega)
   have f2:=hrow1.frozen (k * 3 + 2)
   have step:=fill_stepF RVar_kept RVar_lowers hlt (Nat.le_refl _) hbl hrow (uh HF) hb1 rfl hR1'
   have ST:=hide step
   clear c0 c1 c2 step hR1' hrow1
   go_wp2
   go_roundg (xs.length - (k + 1))
   case measure => have:=uh HG; omega
   case rel => exact ⟨k + 1,by omega,rfl,by go_num,uh ST⟩
  ·have e : k = xs.length:=by omega
   have hb0:=hrow.lt
   have D:=hide (fill_done RVar_lowers hb0 (uh HNB) (uh HN) (by have:=uh HF; rwa [e] at this))
   clear hrow
   go_wp2
   go_ret
   exact ⟨_,rfl,uh D,hbl⟩
theorem info_toStringS : (Tryz.prog.info? 9).map (fun i => (i.zero,i.size,i.bytes)) = some (some (.string ByteArray.empty),1,16):=by kernel_rfl
set_option maxHeartbeats 400000 in
theorem toStringS_ok (xs : List ByteArray) (v : Value) (w : World) (hv : SlAt 1 16 RStr 0 w v xs) :
  Calls Tryz.prog 103 #[v] w (ToPostS 1 16 RStr w xs):=by
 obtain ⟨a,cap,rfl,⟨hnb,_⟩,hn,hx⟩:=hv
 have HNB:=hide hnb
 have HN:=hide hn
 unfold Len at hn hnb
 have HX:=hide hx
 clear hx
 have hmk:=make_rows (P:=Tryz.prog) 66 9 _ _ _ Tryz.underlying66 info_toStringS xs.length hnb hn
 clear hnb
 go_enter Tryz.func103,Tryz.ntmps103
 go_wp2
 go_loopg [4] xs.length (fun g i wr => ∃ (k : Nat),k ≤ xs.length ∧ g = xs.length - k ∧ i = .int .i64 k ∧ BelF w.heap.size w wr ∧ RowAt wr w.heap.size xs.length ∧ Filled 1 RStr (w.heap.size + 1) wr w.heap.size xs k)
 case atStart => exact ⟨0,Nat.zero_le _,by omega,rfl,(BelF.refl _).alloc (Nat.le_refl _) _,RowAt.made _ _ _ _,fill_none _ _ _ _ _ _⟩
 case round =>
  obtain ⟨k,hk,hg,rfl,hbl,hrow,hfil⟩:=hrel
  clear hmk
  have HG:=hide hg
  have HF:=hide hfil
  clear hg hfil
  by_cases hlt : k < xs.length
  ·obtain ⟨b,o,cs,rfl,_,hb,hcs,hc,hR⟩:=uh HX k hlt
   have hR:=RStr_kept.stays _ _ _ _ _ hbl.below hR
   have hc : ∀ j (hj : j < cs.length),wr.cell? ⟨b,o + k * 1 + j,none⟩ = some cs[j]:=fun j hj => by rw [hbl.below.cell (p:=⟨b,_,none⟩) hb]; exact hc j hj
   obtain ⟨rfl,hsn⟩:=hR
   have c0:=hc 0 (by simp)
   simp only [Nat.mul_one,Nat.add_zero,List.getElem_cons_zero,List.getElem_cons_succ] at c0
   clear hc hcs
   obtain ⟨x0,d0⟩:=hrow.cell (i:=k) (by omega)
   have f0:=hrow.frozen k
   have step:=fill_stepF RStr_kept RStr_lowers hlt (Nat.le_refl _) hbl (by rw [Nat.mul_one]; exact hrow) (uh HF) (BelF.refl _) rfl (cs:=[.string xs[k]]) ⟨rfl,hsn⟩
   simp only [Nat.mul_one] at step
   have ST:=hide step
   clear step
   generalize xs[k] = s at *
   go_wp2
   go_roundg (xs.length - (k + 1))
   case measure => have:=uh HG; omega
   case rel => exact ⟨k + 1,by omega,rfl,by go_num,uh ST⟩
  ·have e : k = xs.length:=by omega
   have hb0:=hrow.lt
   have D:=hide (fill_done RStr_lowers hb0 (uh HNB) (uh HN) (by have:=uh HF; rwa [e] at this))
   clear hrow
   go_wp2
   go_ret
   exact ⟨_,rfl,uh D,hbl⟩
theorem info_toItemSS : (Tryz.prog.info? 67).map (fun i => (i.zero,i.size,i.bytes)) = some (some (.slice none 0 0),1,24):=by kernel_rfl
set_option maxHeartbeats 400000 in
theorem toItemSS_ok (xs : List (List DItem)) (v : Value) (w : World) (hv : SlAt 1 24 RItems 0 w v xs) :
  Calls Tryz.prog 105 #[v] w (ToPostS 1 24 RItems w xs):=by
 obtain ⟨a,cap,rfl,⟨hnb,_⟩,hn,hx⟩:=hv
 have HNB:=hide hnb
 have HN:=hide hn
 unfold Len at hn hnb
 have HX:=hide hx
 clear hx
 have hmk:=make_rows (P:=Tryz.prog) 68 67 _ _ _ Tryz.underlying68 info_toItemSS xs.length hnb hn
 clear hnb
 go_enter Tryz.func105,Tryz.ntmps105
 go_wp2
 go_loopg [4] xs.length (fun g i wr => ∃ (k : Nat),k ≤ xs.length ∧ g = xs.length - k ∧ i = .int .i64 k ∧ BelF w.heap.size w wr ∧ RowAt wr w.heap.size xs.length ∧ Filled 1 RItems (w.heap.size + 1) wr w.heap.size xs k)
 case atStart => exact ⟨0,Nat.zero_le _,by omega,rfl,(BelF.refl _).alloc (Nat.le_refl _) _,RowAt.made _ _ _ _,fill_none _ _ _ _ _ _⟩
 case round =>
  obtain ⟨k,hk,hg,rfl,hbl,hrow,hfil⟩:=hrel
  clear hmk
  have HG:=hide hg
  have HF:=hide hfil
  clear hg hfil
  by_cases hlt : k < xs.length
  ·obtain ⟨b,o,cs,rfl,_,hb,hcs,hc,hR⟩:=uh HX k hlt
   have hR:=RItems_kept.stays _ _ _ _ _ hbl.below hR
   have hc : ∀ j (hj : j < cs.length),wr.cell? ⟨b,o + k * 1 + j,none⟩ = some cs[j]:=fun j hj => by rw [hbl.below.cell (p:=⟨b,_,none⟩) hb]; exact hc j hj
   obtain ⟨vl,rfl,hcl⟩:=hR
   have HCL:=hide hcl
   clear hcl
   have c0:=hc 0 (by simp)
   simp only [Nat.mul_one,Nat.add_zero,List.getElem_cons_zero,List.getElem_cons_succ] at c0
   clear hc hcs
   go_wp2_with fail
   refine (toItemS_ok _ _ _ (uh HCL)).mono ?_
   rintro e w1 ⟨v',rfl,hS1,hb1⟩
   have hR1 : RItems wr.heap.size w1 [v'] xs[k]:=⟨v',rfl,hS1⟩
   have hrow1:=hrow.below hb1.below
   have hR1':=hR1
   obtain ⟨aa1,ca1,rfl⟩:=hS1.shape
   clear hS1
   obtain ⟨x0,d0⟩:=hrow1.cell (i:=k) (by omega)
   have f0:=hrow1.frozen (k)
   have step:=fill_stepF RItems_kept RItems_lowers hlt (Nat.le_refl _) hbl (by rw [Nat.mul_one]; exact hrow) (uh HF) hb1 rfl hR1'
   simp only [Nat.mul_one] at step
   have ST:=hide step
   clear c0 step hR1' hR1 hrow1
   go_wp2
   go_roundg (xs.length - (k + 1))
   case measure => have:=uh HG; omega
   case rel => exact ⟨k + 1,by omega,rfl,by go_num,uh ST⟩
  ·have e : k = xs.length:=by omega
   have hb0:=hrow.lt
   have D:=hide (fill_done RItems_lowers hb0 (uh HNB) (uh HN) (by have:=uh HF; rwa [e] at this))
   clear hrow
   go_wp2
   go_ret
   exact ⟨_,rfl,uh D,hbl⟩
set_option maxHeartbeats 1000000 in
theorem toEquation_ok (x : DEq) (a1 a2 a3 : Value) (w : World) (hs : Len x.call.size) (h1 : SlAt 1 16 RStr 0 w a1 x.lhs) (h2 : SlAt 3 32 RItem 0 w a2 x.code) (h3 : SlAt 1 24 RItems 0 w a3 x.args) :
  Calls Tryz.prog 80 #[.agg #[a1,a2,.string x.call,a3]] w (ToPost REq w x):=by
 obtain ⟨lhs,code,s,args⟩:=x
 simp only at hs h1 h2 h3
 have Hhs:=hide hs
 clear hs
 have H1:=hide h1
 clear h1
 have H2:=hide h2
 clear h2
 have H3:=hide h3
 clear h3
 go_enter Tryz.func80,Tryz.ntmps80
 go_wp2_with fail
 refine (toStringS_ok lhs _ _ ?_).mono ?_
 ·exact (uh H1).stays RStr_kept ((((Below.refl _ _).alloc (Nat.le_refl _) _).alloc (by simp) _).alloc (by simp <;> omega) _)
 rintro e w1 ⟨v1,rfl,hS,hb⟩
 obtain ⟨b1,cap1,rfl⟩:=hS.shape
 obtain ⟨hc1,hf1⟩:=bcell hb.below
 have hz:=hb.below.size
 simp only [World.size_alloc,Deep.nblk_setCell] at hz hc1 hf1
 have HS1:=hide (hS.lower RStr_lowers (lo':=w.heap.size + 1 + 1 + 1) (by simp <;> omega))
 have HB1 : Hid (BelF w.heap.size w w1):=((((BelF.refl _).alloc (Nat.le_refl _) _).alloc (by simp) _).alloc (by simp <;> omega) _).and hb (by simp <;> omega)
 have hza1 : w.heap.size < w1.heap.size:=by omega
 have hzb1 : w.heap.size + 1 < w1.heap.size:=by omega
 have hzc1 : w.heap.size + 1 + 1 < w1.heap.size:=by omega
 clear hS hb hz
 go_wp2_with fail
 refine (toItemS_ok code _ _ ?_).mono ?_
 ·exact (uh H2).stays RItem_kept (by repeat (first | refine Below.setCell ?_ (by simp <;> omega) _ | exact (uh HB1).below))
 rintro e w2 ⟨v2,rfl,hS,hb⟩
 obtain ⟨b2,cap2,rfl⟩:=hS.shape
 obtain ⟨hc2,hf2⟩:=bcell hb.below
 have hz:=hb.below.size
 simp only [World.size_alloc,Deep.nblk_setCell] at hz hc2 hf2
 have HS2:=hide (hS.lower RItem_lowers (lo':=w.heap.size + 1 + 1 + 1) (by simp <;> omega))
 have HB2 : Hid (BelF w.heap.size w w2):=by
  refine BelF.and ?_ hb (by simp <;> omega)
  repeat (first | refine BelF.setCell ?_ (by simp <;> omega) _ | exact uh HB1)
 have HK : Kept (w.heap.size + 1 + 1 + 1) w1.heap.size w1 w2:=by
  refine Kept.trans ?_ (Kept.of_below hb.below) (by simp <;> omega)
  repeat (first | refine Kept.setCell ?_ (by simp <;> omega) _ | exact Kept.refl _ _ _)
 replace HS1:=hide ((uh HS1).kept RStr_kept HK)
 clear HK
 have hza2 : w.heap.size < w2.heap.size:=by omega
 have hzb2 : w.heap.size + 1 < w2.heap.size:=by omega
 have hzc2 : w.heap.size + 1 + 1 < w2.heap.size:=by omega
 clear hS hb hz
 go_wp2_with fail
 refine (toItemSS_ok args _ _ ?_).mono ?_
 ·exact (uh H3).stays RItems_kept (by repeat (first | refine Below.setCell ?_ (by simp <;> omega) _ | exact (uh HB2).below))
 rintro e w3 ⟨v3,rfl,hS,hb⟩
 obtain ⟨b3,cap3,rfl⟩:=hS.shape
 obtain ⟨hc3,hf3⟩:=bcell hb.below
 have hz:=hb.below.size
 simp only [World.size_alloc,Deep.nblk_setCell] at hz hc3 hf3
 have HS3:=hide (hS.lower RItems_lowers (lo':=w.heap.size + 1 + 1 + 1) (by simp <;> omega))
 have HB3 : Hid (BelF w.heap.size w w3):=by
  refine BelF.and ?_ hb (by simp <;> omega)
  repeat (first | refine BelF.setCell ?_ (by simp <;> omega) _ | exact uh HB2)
 have HK : Kept (w.heap.size + 1 + 1 + 1) w2.heap.size w2 w3:=by
  refine Kept.trans ?_ (Kept.of_below hb.below) (by simp <;> omega)
  repeat (first | refine Kept.setCell ?_ (by simp <;> omega) _ | exact Kept.refl _ _ _)
 replace HS1:=hide ((uh HS1).kept RStr_kept HK)
 replace HS2:=hide ((uh HS2).kept RItem_kept HK)
 clear HK
 have hza3 : w.heap.size < w3.heap.size:=by omega
 have hzb3 : w.heap.size + 1 < w3.heap.size:=by omega
 have hzc3 : w.heap.size + 1 + 1 < w3.heap.size:=by omega
 clear hS hb hz
 go_wp2
 refine bodyPost_ret (v:=.agg #[.slice b1 lhs.length cap1,.slice b2 code.length cap2,.string s,.slice b3 args.length cap3]) (by simp [results,Tryz.results80,go_sem,hc1,hza1,hzb1,hzc1,hc2,hza2,hzb2,hzc2,hc3,hza3,hzb3,hzc3]) rfl ⟨[.slice b1 lhs.length cap1,.slice b2 code.length cap2,.string s,.slice b3 args.length cap3],rfl,⟨_,_,_,rfl,uh Hhs,?_,?_,?_⟩,?_⟩
 ·exact ((uh HS1).kept RStr_kept (by repeat (first | refine Kept.setCell ?_ (by simp <;> omega) _ | exact Kept.refl _ _ _))).lower RStr_lowers (by omega)
 ·exact ((uh HS2).kept RItem_kept (by repeat (first | refine Kept.setCell ?_ (by simp <;> omega) _ | exact Kept.refl _ _ _))).lower RItem_lowers (by omega)
 ·exact ((uh HS3).kept RItems_kept (by repeat (first | refine Kept.setCell ?_ (by simp <;> omega) _ | exact Kept.refl _ _ _))).lower RItems_lowers (by omega)
 ·repeat (first | refine BelF.setCell ?_ (by simp <;> omega) _ | exact uh HB3)
theorem info_toEquationS : (Tryz.prog.info? 70).map (fun i => (i.zero,i.size,i.bytes)) = some (some (.agg #[.slice none 0 0,.slice none 0 0,.string ByteArray.empty,.slice none 0 0]),4,88):=by kernel_rfl
set_option maxHeartbeats 400000 in
theorem toEquationS_ok (xs : List DEq) (v : Value) (w : World) (hv : SlAt 4 88 REq 0 w v xs) :
  Calls Tryz.prog 55 #[v] w (ToPostS 4 88 REq w xs):=by
 obtain ⟨a,cap,rfl,⟨hnb,_⟩,hn,hx⟩:=hv
 have HNB:=hide hnb
 have HN:=hide hn
 unfold Len at hn hnb
 have HX:=hide hx
 clear hx
 have hmk:=make_rows (P:=Tryz.prog) 43 70 _ _ _ Tryz.underlying43 info_toEquationS xs.length hnb hn
 clear hnb
 go_enter Tryz.func55,Tryz.ntmps55
 go_wp2
 go_loopg [4] xs.length (fun g i wr => ∃ (k : Nat),k ≤ xs.length ∧ g = xs.length - k ∧ i = .int .i64 k ∧ BelF w.heap.size w wr ∧ RowAt wr w.heap.size (xs.length * 4) ∧ Filled 4 REq (w.heap.size + 1) wr w.heap.size xs k)
 case atStart => exact ⟨0,Nat.zero_le _,by omega,rfl,(BelF.refl _).alloc (Nat.le_refl _) _,RowAt.made _ _ _ _,fill_none _ _ _ _ _ _⟩
 case round =>
  obtain ⟨k,hk,hg,rfl,hbl,hrow,hfil⟩:=hrel
  clear hmk
  have HG:=hide hg
  have HF:=hide hfil
  clear hg hfil
  by_cases hlt : k < xs.length
  ·obtain ⟨b,o,cs,rfl,_,hb,hcs,hc,hR⟩:=uh HX k hlt
   have hR:=REq_kept.stays _ _ _ _ _ hbl.below hR
   have hc : ∀ j (hj : j < cs.length),wr.cell? ⟨b,o + k * 4 + j,none⟩ = some cs[j]:=fun j hj => by rw [hbl.below.cell (p:=⟨b,_,none⟩) hb]; exact hc j hj
   obtain ⟨l,c,aa,rfl,hsn,g1,g2,g3⟩:=hR
   have G1:=hide g1
   have G2:=hide g2
   have G3:=hide g3
   clear g1 g2 g3
   have c0:=hc 0 (by simp)
   have c1:=hc 1 (by simp)
   have c2:=hc 2 (by simp)
   have c3:=hc 3 (by simp)
   simp only [Nat.mul_one,Nat.add_zero,List.getElem_cons_zero,List.getElem_cons_succ] at c0 c1 c2 c3
   clear hc hcs
   go_wp2_with fail
   refine (toEquation_ok _ _ _ _ _ hsn (uh G1) (uh G2) (uh G3)).mono ?_
   rintro e w1 ⟨cs',rfl,hR1,hb1⟩
   have hrow1:=hrow.below hb1.below
   have hR1':=hR1
   obtain ⟨l1,c1,a1,rfl,hsn1,g1,g2,g3⟩:=hR1
   obtain ⟨aa1,ca1,rfl⟩:=g1.shape
   clear g1
   obtain ⟨aa2,ca2,rfl⟩:=g2.shape
   clear g2
   obtain ⟨aa3,ca3,rfl⟩:=g3.shape
   clear g3
   obtain ⟨x0,d0⟩:=hrow1.cell (i:=k * 4) (by omega)
   have f0:=hrow1.frozen (k * 4)
   obtain ⟨x1,d1⟩:=hrow1.cell (i:=k * 4 + 1) (by omega)
   have f1:=hrow1.frozen (k * 4 + 1)
   obtain ⟨x2,d2⟩:=hrow1.cell (i:=k * 4 + 2) (by omega)
   have f2:=hrow1.frozen (k * 4 + 2)
   obtain ⟨x3,d3⟩:=hrow1.cell (i:=k * 4 + 3) (by omega)
   have f3:=hrow1.frozen (k * 4 + 3)
   have step:=fill_stepF REq_kept REq_lowers hlt (Nat.le_refl _) hbl hrow (uh HF) hb1 rfl hR1'
   have ST:=hide step
   clear c0 c1 c2 c3 step hR1' hrow1
   go_wp2
   go_roundg (xs.length - (k + 1))
   case measure => have:=uh HG; omega
   case rel => exact ⟨k + 1,by omega,rfl,by go_num,uh ST⟩
  ·have e : k = xs.length:=by omega
   have hb0:=hrow.lt
   have D:=hide (fill_done REq_lowers hb0 (uh HNB) (uh HN) (by have:=uh HF; rwa [e] at this))
   clear hrow
   go_wp2
   go_ret
   exact ⟨_,rfl,uh D,hbl⟩
end Go.Proofs.YtfioeoihociilaaGreat
