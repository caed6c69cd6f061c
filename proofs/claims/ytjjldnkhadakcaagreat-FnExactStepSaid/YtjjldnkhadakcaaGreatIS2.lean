import Derived.Test.YtjjldnkhadakcaaGreatIS1
import Derived.Test.YtjjldnkhadakcaaGreatMI18
import Derived.Test.YtjjldnkhadakcaaGreatBegAt
namespace Go.Proofs.YtjjldnkhadakcaaGreat
open Go.RowKit
set_option linter.unusedSimpArgs false
set_option linter.unusedVariables false
theorem Fd.lenLe {α : Type} {f : DItem → List α → α} {code : List DItem} {b e : Nat} {us : List α} (h : Fd f code b e us) : us.length + b ≤ e:=by
 induction h using Fd.ind with
 | nil b => simp
 | snoc h h1 h2 h3 i1 i2 => rw [List.length_append,List.length_singleton]; omega
def blkL (v : Value) : List Nat:=v.ownBlock.toList
theorem mem_blkL {v : Value} {x : Nat} : x ∈ blkL v ↔ v.ownBlock = some x:=by
 unfold blkL
 rw [Option.mem_toList]
theorem But.then {S T : List Nat} {a b c : World} (h : But S a b) (k : But T b c) (hT : ∀ x,x ∈ T → x ∈ S ∨ a.heap.size ≤ x) : But S a c :=
 ⟨k.os.trans h.os,k.tape.trans h.tape,k.output.trans h.output,Nat.le_trans h.size k.size,fun i hi hs => (k.block i (Nat.lt_of_lt_of_le hi h.size) (fun e => by
  rcases hT i e with h9 | h9
  ·exact hs h9
  ·omega)).trans (h.block i hi hs)⟩
theorem But.ofGrown {w w' : World} {v : Value} (h : w.grownBy w' v.ownBlock) : But (blkL v) w w' :=
 ⟨h.os,h.tape,h.output,h.size,fun k hk hn => h.block k hk (fun e => hn (mem_blkL.2 e.symm))⟩
def Moved (w : World) (v v' : Value) : Prop:=∀ b,v'.ownBlock = some b → v.ownBlock = some b ∨ w.heap.size ≤ b
theorem Moved.refl (w : World) (v : Value) : Moved w v v:=fun b hb => Or.inl hb
theorem Moved.mem {w : World} {v v' : Value} (h : Moved w v v') : ∀ x,x ∈ blkL v' → x ∈ blkL v ∨ w.heap.size ≤ x:=fun x hx => (h x (mem_blkL.1 hx)).imp mem_blkL.2 id
theorem OwnV.cutF {P : Program} {α : Type} {E : ElF P α} {w : World} {base : Nat} {a : Option Addr} {c m : Nat} {xs : List α} (h : OwnV E w base (.slice a xs.length c) xs) (hm : m ≤ xs.length) : OwnV E w base (.slice a m c) (xs.take m):=by
 obtain ⟨h1,h2⟩:=h
 have hl : (xs.take m).length = m:=by rw [List.length_take]; omega
 refine ⟨by rw [flat_len E.f E.sz E.hf],?_⟩
 rcases h2 with ⟨h3,h4⟩ | ⟨g,cap,cur,h3,h4,h5,h6,h7,h8,h9⟩
 ·simp only [Value.slice.injEq] at h3
  obtain ⟨rfl,_,rfl⟩:=h3
  have hm0 : m = 0:=by omega
  subst hm0
  exact Or.inl ⟨rfl,by simp⟩
 ·simp only [Value.slice.injEq] at h3
  obtain ⟨rfl,_,rfl⟩:=h3
  refine Or.inr ⟨g,c,cur,by rw [hl],h4,h5,by omega,h7,h8,?_⟩
  rw [hl]
  have e1 : xs.flatMap E.f = (xs.take m).flatMap E.f ++ (xs.drop m).flatMap E.f:=by rw [← List.flatMap_append,List.take_append_drop]
  have e2 : (cur.toList.take (xs.length * E.sz)).take (m * E.sz) = (xs.take m).flatMap E.f:=by
   rw [h9,e1,List.take_left' (by rw [flat_len E.f E.sz E.hf,hl])]
  rw [← e2,List.take_take,Nat.min_eq_left (Nat.mul_le_mul_right _ hm)]
theorem flat_oneI (f : Int → Value) (xs : List Int) : xs.flatMap (fun t => [f t]) = xs.map f:=by
 induction xs with
 | nil => rfl
 | cons x xs ih => rw [List.flatMap_cons,ih]; rfl
theorem OwnV.cell32 {w : World} {base : Nat} {v : Value} {xs : List Int} (h : OwnV el32 w base v xs) {g c n : Nat} (hv : v = .slice (some ⟨g,0,none⟩) n c) (p : Nat) (hp : p < xs.length) : w.cell? ⟨g,p,none⟩ = some (.int .i32 xs[p]):=by
 have h':=World.ownsRow.cells h (g:=g) (by rw [hv]; rfl) p (.int .i32 xs[p]) (by
  rw [show xs.flatMap el32.f = xs.map (Value.int .i32) from by
   show xs.flatMap (fun t => [Value.int .i32 t]) = _
   exact flat_oneI (Value.int .i32) xs]
  rw [List.getElem?_map,List.getElem?_eq_getElem hp]
  rfl)
 rw [Addr.add_lit,Nat.zero_add] at h'
 exact h'
structure Dyn (W w : World) (base fb pb B : Nat) (L : List Int) (sv vv pv stk : Value) : Prop where
 old : Below W.heap.size W w
 fr : BlkAt w fb 105 #[.pointer (some ⟨pb,0,none⟩),sv,vv,pv,stk]
 row : BlkAt w B 21 (L.map (Value.int .i32)).toArray
 stk : ∃ xs,OwnV el32 w base stk xs
 fb0 : W.heap.size ≤ fb
 b0 : W.heap.size ≤ B
 bb : B < base
 bw : base ≤ w.heap.size
theorem Dyn.stays {W w w' : World} {base fb pb B : Nat} {L : List Int} {sv vv pv stk : Value} (h : Dyn W w base fb pb B L sv vv pv stk) (hb : Below w.heap.size w w') : Dyn W w' base fb pb B L sv vv pv stk:=by
 obtain ⟨xs,hx⟩:=h.stk
 exact ⟨h.old.trans (hb.mono h.old.size),h.fr.below hb h.fr.lt,h.row.below hb h.row.lt,⟨xs,hx.below hb⟩,h.fb0,h.b0,h.bb,Nat.le_trans h.bw hb.size⟩
theorem row_cell {w : World} {B : Nat} {L : List Int} (h : BlkAt w B 21 (L.map (Value.int .i32)).toArray) (p : Nat) (hp : p < L.length) : w.cell? ⟨B,p,none⟩ = some (.int .i32 (L.getD p 0)):=by
 refine h.cell (v:=.int .i32 (L.getD p 0)) ?_
 rw [List.getD_eq_getElem?_getD,List.getElem?_eq_getElem hp]
 simp [hp]
structure Geo (B : Nat) (L : List Int) (so vo rest : Nat) (sa pa : Option Addr) (sv vv pv : Value) (vars state : List Int) : Prop where
 vv : vv = .slice (some ⟨B,vo,none⟩) vars.length vars.length
 sv : sv = .slice sa state.length state.length
 sa : 0 < state.length → sa = some ⟨B,so,none⟩
 pv : pv = .slice pa rest rest
 pa : 0 < rest → pa = some ⟨B,vo + vars.length,none⟩
 vl : vo + vars.length + rest ≤ L.length
 sl : so + state.length ≤ vo
 v0 : 0 < vars.length
 vs : ∀ p,p < vars.length → L.getD (vo + p) 0 = vars.getD p 0
 ss : ∀ p,p < state.length → L.getD (so + p) 0 = state.getD p 0
 vq : ∀ x,x ∈ vars → Q32 x
 sq : ∀ x,x ∈ state → Q32 x
 ln : L.length ≤ 1000000
structure PlIn (W : World) (pb mb : Nat) (vs : List ByteArray) : Prop where
 p1 : W.cell? ⟨pb,1,none⟩ = some (.map (some mb))
 map : MapN W mb vs.length (namesF vs)
theorem Dyn.frIn {W w : World} {base fb pb B : Nat} {L : List Int} {sv vv pv stk : Value} (h : Dyn W w base fb pb B L sv vv pv stk) {so vo rest : Nat} {sa pa : Option Addr} {vars state : List Int} (g : Geo B L so vo rest sa pa sv vv pv vars state) {mb : Nat} {vs : List ByteArray} (hp : PlIn W pb mb vs) : FrIn w fb pb mb vs B so vo sa vars state:=by
 have h1:=g.vl
 have h2:=g.sl
 have h3:=g.ln
 refine ⟨h.fr.cell (i:=0) rfl,?_,?_,(h.old.cell (World.block_lt_of_cell? W _ hp.p1)).trans hp.p1,hp.map.below h.old hp.map.lt,fun p hp => ?_,fun p hp => ⟨g.sa (by omega),?_⟩,by omega,by omega,g.vq,g.sq⟩
 ·rw [← g.sv]; exact h.fr.cell (i:=1) rfl
 ·rw [← g.vv]; exact h.fr.cell (i:=2) rfl
 ·rw [row_cell h.row _ (by omega),g.vs p hp]
 ·rw [row_cell h.row _ (by omega),g.ss p hp]
theorem FrIn.but {w w' : World} {fb pb mb : Nat} {vs : List ByteArray} {B so vo : Nat} {sa : Option Addr} {vars state : List Int} {S : List Nat} (h : FrIn w fb pb mb vs B so vo sa vars state) (hb : But S w w') (n1 : fb ∉ S) (n2 : pb ∉ S) (n3 : mb ∉ S) (n4 : B ∉ S) : FrIn w' fb pb mb vs B so vo sa vars state:=by
 have c : ∀ {p : Addr} {v : Value},p.block ∉ S → w.cell? p = some v → w'.cell? p = some v:=fun {p v} hn h9 => (hb.cell (World.block_lt_of_cell? w _ h9) hn).trans h9
 exact ⟨c n1 h.f0,c n1 h.f1,c n1 h.f2,c n2 h.p1,hb.map h.map n3,fun p hp => c n4 (h.vals p hp),fun p hp => ⟨(h.cells p hp).1,c n4 (h.cells p hp).2⟩,h.vn,h.sn,h.vq,h.sq⟩
theorem Dyn.old2 {W w : World} {base fb pb B : Nat} {L : List Int} {sv vv pv stk : Value} (h : Dyn W w base fb pb B L sv vv pv stk) {w' : World} (hb : But (blkL stk) w w') : Below W.heap.size W w':=by
 obtain ⟨xs,hx⟩:=h.stk
 refine h.old.trans (hb.below _ h.old.size (fun k hk => ?_))
 have:=hx.block k (mem_blkL.1 hk)
 have:=h.bb
 have:=h.b0
 omega
theorem Dyn.fr2 {W w : World} {base fb pb B : Nat} {L : List Int} {sv vv pv stk : Value} (h : Dyn W w base fb pb B L sv vv pv stk) {so vo rest : Nat} {sa pa : Option Addr} {vars state : List Int} (g : Geo B L so vo rest sa pa sv vv pv vars state) {mb : Nat} {vs : List ByteArray} (hp : PlIn W pb mb vs) {w' : World} (hb : But (blkL stk) w w') : FrIn w' fb pb mb vs B so vo sa vars state:=by
 obtain ⟨xs,hx⟩:=h.stk
 have h1:=h.bb
 have h2:=h.b0
 have h3:=World.block_lt_of_cell? W _ hp.p1
 have h4:=hp.map.lt
 have hn : ∀ b,b < base → b ∉ blkL stk:=fun b hb9 e => by
  have:=hx.block b (mem_blkL.1 e)
  omega
 refine (h.frIn g hp).but hb (fun e => OwnV.notBlk' hx h.fr (by decide) (mem_blkL.1 e)) (hn _ ?_) (hn _ (by omega)) (hn _ h1)
 have h5 : pb < W.heap.size:=h3
 omega
theorem Dyn.end2 {W w : World} {base fb pb B : Nat} {L : List Int} {sv vv pv stk : Value} (h : Dyn W w base fb pb B L sv vv pv stk) {w' : World} (hb : But (blkL stk) w w') {stv : Value} {us : List Int} (ho : OwnV el32 w' base stv us) : Dyn W (w'.setCell ⟨fb,4,none⟩ stv) base fb pb B L sv vv pv stv ∧ But (fb :: blkL stk) w (w'.setCell ⟨fb,4,none⟩ stv) ∧ BlkAt w' fb 105 #[.pointer (some ⟨pb,0,none⟩),sv,vv,pv,stk]:=by
 obtain ⟨xs,hx⟩:=h.stk
 have h1:=h.bb
 have h2:=h.b0
 have hf : BlkAt w' fb 105 #[.pointer (some ⟨pb,0,none⟩),sv,vv,pv,stk]:=hb.blk h.fr (fun e => OwnV.notBlk' hx h.fr (by decide) (mem_blkL.1 e))
 have hr : BlkAt w' B 21 (L.map (Value.int .i32)).toArray:=hb.blk h.row (fun e => by
  have:=hx.block B (mem_blkL.1 e)
  omega)
 have hne : B ≠ fb:=fun e => by
  rw [e] at hr
  have h9:=hr.symm.trans hf
  simp only [Option.some.injEq,Obj.cells.injEq] at h9
  exact absurd h9.2.1 (by decide)
 have hnf:=OwnV.notBlk' ho hf (by decide)
 have hk : But [fb] w' (w'.setCell ⟨fb,4,none⟩ stv):=But.setCell _ (p:=⟨fb,4,none⟩) (List.mem_singleton.2 rfl) _
 refine ⟨⟨(h.old2 hb).trans (hk.below _ (h.old2 hb).size (fun k hk => by rw [List.mem_singleton] at hk; subst hk; exact h.fb0)),?_,hk.blk hr (by simpa using hne),⟨us,ho.ofBlock (fun b hb9 => hk.block b (ho.lt b hb9).2 (fun e => by rw [List.mem_singleton] at e; subst e; exact hnf hb9))⟩,h.fb0,h.b0,h.bb,Nat.le_trans h.bw (Nat.le_trans hb.size hk.size)⟩,?_,hf⟩
 ·have h9:=hf.set 4 stv
  exact h9
 ·exact (hb.mono (fun k hk => Or.inl (List.mem_cons_of_mem _ hk))).then hk (fun x hx => Or.inl (by rw [List.mem_singleton] at hx; subst hx; exact List.mem_cons_self))
theorem below_drew_l {B : Nat} {a b : World} (h : Below B a.drew b) : Below B a b:=⟨h.os,h.tape,h.output,h.size,h.block⟩
def VaPost (W : World) (base fb pb B : Nat) (L : List Int) (sv vv pv stk : Value) (v : Int) (w : World) (e : Ending) (w' : World) : Prop :=
 e = .returned (.int .i32 v) ∧ ∃ stk',Dyn W w' base fb pb B L sv vv pv stk' ∧ But (fb :: blkL stk) w w' ∧ Moved w stk stk'
set_option maxRecDepth 20000 in
set_option maxHeartbeats 8000000 in
theorem value_ok (W w : World) (base fb pb B : Nat) (L : List Int) (sv vv pv stk : Value) (hD : Dyn W w base fb pb B L sv vv pv stk) (so vo rest : Nat) (sa pa : Option Addr) (vars state : List Int) (hG : Geo B L so vo rest sa pa sv vv pv vars state) (mb : Nat) (vs : List ByteArray) (hP : PlIn W pb mb vs)
  (code : List DItem) (cv : Value) (hcv : SlAt 3 32 RItem 0 W cv code) (hev : ∀ t,t ∈ code → EvOK vs vars state t) (hl : code.length ≤ 6000) (v : Int) (hv : Fd (evF vs vars state) code 0 code.length [v]) (hwk : wk code 0 = true) :
  Calls Tryz.prog 88 #[.pointer (some ⟨fb,0,none⟩),cv] w (VaPost W base fb pb B L sv vv pv stk v w):=by
 obtain ⟨xs0,hx0⟩:=hD.stk
 obtain ⟨ka,kc,rfl⟩:=hx0.slice
 have f4:=hD.fr.cell (i:=4) (v:=.slice ka xs0.length kc) rfl
 have f4z:=hD.fr.free 4
 obtain ⟨ca,cc,hcve⟩:=hcv.shape
 subst hcve
 have HD:=hide hD
 have HG:=hide hG
 have HP:=hide hP
 have HCV:=hide hcv
 have HEV:=hide hev
 have HV:=hide hv
 have HX0:=hide hx0
 have hcut : Hid (OwnV el32 w base (.slice ka 0 kc) []):=by
  have h9:=hx0.cutF (m:=0) (Nat.zero_le _)
  rw [List.take_zero] at h9
  exact hide h9
 have HWK : Hid (wk (code.drop 0) ([] : List Int).length = true):=hwk
 clear hD hG hP hcv hev hv hx0 hwk
 go_enter Tryz.func88,Tryz.ntmps88
 go_wp2
 go_loopg [5,17] code.length (fun gm kv iv wr => ∃ (q : Nat) (us : List Int) (stv : Value),q ≤ code.length ∧ gm = code.length - q ∧ iv = .int .i64 q ∧ kv = stv ∧ OwnV el32 wr base stv us ∧ Fd (evF vs vars state) code 0 q us ∧ wk (code.drop q) us.length = true ∧ But (blkL (.slice ka xs0.length kc)) w wr ∧ Moved w (.slice ka xs0.length kc) stv)
 case atStart => exact ⟨0,[],_,Nat.zero_le _,by omega,rfl,rfl,uh hcut,.nil 0,uh HWK,But.refl _ _,fun b hb => Or.inl (by cases ka <;> exact hb)⟩
 case round =>
  obtain ⟨q,us,stv,hq,hg,rfl,rfl,ho,hf,hwk,hbt,hmv⟩:=hrel
  rename World => wr
  clear hcut HWK f4 f4z
  obtain ⟨sa2,sc2,hse⟩:=ho.slice
  subst hse
  have HO:=hide ho
  have HF:=hide hf
  have HBT:=hide hbt
  have HMV:=hide hmv
  have HG9:=hide hg
  by_cases hlt : q < code.length
  case neg =>
   have e : q = code.length:=by omega
   have hu1 : us.length = 1:=by
    rw [e,List.drop_length] at hwk
    simp [wk] at hwk
    omega
   have hus : us = [v]:=by
    rw [e] at hf
    exact (Fd.one _ _ _ _ _ hf (uh HV) hu1).2
   subst hus
   obtain ⟨g2,c2,hse2⟩ : ∃ g c,(Value.slice sa2 [v].length sc2) = .slice (some ⟨g,0,none⟩) 1 c:=by
    rcases ho.shape with ⟨_,h9⟩ | ⟨g,c,h9,_⟩
    ·cases h9
    ·exact ⟨g,c,h9⟩
   have k0:=ho.cell32 hse2 0 (by simp)
   simp only [List.getElem_cons_zero] at k0
   simp only [Value.slice.injEq] at hse2
   obtain ⟨rfl,_,rfl⟩:=hse2
   obtain ⟨d1,d2,d3⟩:=(uh HD).end2 hbt ho
   have x4:=d3.cell (i:=4) (v:=.slice ka xs0.length kc) rfl
   have z4:=d3.free 4
   have HPO : Hid (VaPost W base fb pb B L sv vv pv (.slice ka xs0.length kc) v w (.returned (.int .i32 v)) (wr.setCell ⟨fb,4,none⟩ (.slice (some ⟨g2,0,none⟩) 1 sc2))):=⟨rfl,_,d1,d2,hmv⟩
   have k0' : (wr.setCell ⟨fb,4,none⟩ (.slice (some ⟨g2,0,none⟩) 1 sc2)).cell? ⟨g2,0,none⟩ = some (.int .i32 v):=by
    rw [World.cell?_of_block (w:=wr) (Below.heap_setCell _ _ _ _ (fun e9 => by
     have e9' : g2 = fb:=e9
     exact OwnV.notBlk' ho d3 (by decide) (by rw [← e9']; rfl)))]
    exact k0
   have hqI : ¬ (q : Int) < (code.length : Int):=by omega
   clear ho hf hbt hmv hg hwk d1 d2 d3 e hu1 HO HF HBT HMV HG9 HD HG HP HCV HEV HV HX0
   go_wp2
   go_ret
   exact uh HPO
  have hdr : code.drop q = code[q] :: code.drop (q + 1):=List.drop_eq_getElem_cons hlt
  rw [hdr,wk] at hwk
  have hoc:=ocI_bd code[q].op
  have hnn : ¬ (us.length : Int) < ocI code[q].op:=fun h9 => by rw [if_pos h9] at hwk; cases hwk
  rw [if_neg hnn] at hwk
  have har : ((arF code[q].op : Nat) : Int) = ocI code[q].op:=by unfold arF; omega
  obtain ⟨m,u1,u2,hus,hu2,f1,f2⟩:=hf.split (arF code[q].op) (by omega)
  have HF2 : Hid (Fd (evF vs vars state) code 0 (q + 1) (u1 ++ [evF vs vars state code[q] u2])):=.snoc hlt f1 f2 hu2
  have HWK2 : Hid (wk (code.drop (q + 1)) ((u1 ++ [evF vs vars state code[q] u2]).length : Nat) = true):=by
   have e : (((u1 ++ [evF vs vars state code[q] u2]).length : Nat) : Int) = (us.length : Int) + (1 - ocI code[q].op):=by
    rw [hus,List.length_append,List.length_append,← har,hu2]
    simp
    omega
   refine hide ?_
   rw [e]
   exact hwk
  have HQ2 : Hid (∀ u,u ∈ u2 → Q32 u):=fd_32 (uh HG).vq (uh HG).sq (uh HEV) f2
  have HFR:=hide ((uh HD).fr2 (uh HG) (uh HP) hbt)
  have HEQ:=hide (uh HEV _ (List.getElem_mem hlt))
  have hold:=(uh HD).old2 hbt
  have hcr:=(uh HCV).stays RItem_kept hold
  obtain ⟨_,_,hve2,_,_,hxx⟩:=hcr
  simp only [Value.slice.injEq] at hve2
  obtain ⟨rfl,_,rfl⟩:=hve2
  obtain ⟨cb,co,cs,rfl,_,hcb,hcs,hcc,hRR⟩:=hxx q hlt
  obtain ⟨rfl,hsn,hop,hvl⟩:=hRR
  have c0:=hcc 0 (by simp)
  have c1:=hcc 1 (by simp)
  have c2:=hcc 2 (by simp)
  simp only [Nat.mul_one,Nat.add_zero,List.getElem_cons_zero,List.getElem_cons_succ] at c0 c1 c2
  have hu6 : us.length ≤ q:=by
   have:=hf.lenLe
   omega
  have HOC:=hide (fun w => operandCount_ok code[q].op w)
  have hrest : (us.length : Int) - ocI code[q].op = (u1.length : Int):=by
   rw [hus,List.length_append,hu2,← har]
   simp
  have hwr : IntKind.i64.wrap ((us.length : Int) - ocI code[q].op) = (u1.length : Int):=by
   rw [hrest,IntKind.wrap_i64]
   omega
  have HU2:=hide hu2
  have HUS:=hide hus
  have HOLD:=hide hold
  have hqI : (q : Int) < (code.length : Int):=by omega
  have HSN:=hide hsn
  clear ho hf hbt hmv hg hwk f1 f2 hus hu2 hold hxx hcc hcs hsn hop hvl har hnn hoc hdr hrest hcb
  generalize hT : code[q] = t at *
  clear hT
  have hul : us.length = u1.length + u2.length:=by rw [uh HUS,List.length_append]
  have htk : us.take u1.length = u1:=by rw [uh HUS,List.take_left]
  have HCUT:=hide ((uh HO).cutF (m:=u1.length) (by omega))
  rw [htk] at HCUT
  have HSH:=hide (uh HO).shape
  have HCEL : Hid (∀ g,sa2 = some ⟨g,0,none⟩ → ∀ i (hi : i < u2.length),wr.cell? ⟨g,u1.length + i,none⟩ = some (.int .i32 u2[i])):=fun g hg i hi => by
   have h9:=(uh HO).cell32 (g:=g) (c:=sc2) (n:=us.length) (by rw [hg]) (u1.length + i) (by omega)
   rw [h9]
   have e9 : us[u1.length + i]'(by omega) = u2[i]:=by
    have h8 : us[u1.length + i]? = some u2[i]:=by
     rw [uh HUS,List.getElem?_append_right (by omega),show u1.length + i - u1.length = i by omega,List.getElem?_eq_getElem hi]
    rw [List.getElem?_eq_getElem (by omega)] at h8
    exact Option.some.inj h8
   rw [e9]
  have hA : Below wr.heap.size wr (wr.alloc (.cells #[.int .i64 t.op,.int .i64 t.val,.string t.name] 160)):=(Below.refl _ _).alloc (Nat.le_refl _) _
  have HA:=hide hA
  have HRES : Hid (∀ oa oc,(0 < u2.length → ∃ g,sa2 = some ⟨g,0,none⟩ ∧ oa = some ⟨g,u1.length,none⟩) → Calls Tryz.prog 112 #[.pointer (some ⟨fb,0,none⟩),.agg #[.int .i64 t.op,.int .i64 t.val,.string t.name],.slice oa u2.length oc] (wr.alloc (.cells #[.int .i64 t.op,.int .i64 t.val,.string t.name] 160)).drew (Ans (.int .i32 (evF vs vars state t u2)) (wr.alloc (.cells #[.int .i64 t.op,.int .i64 t.val,.string t.name] 160)).drew)):=fun oa oc h9 => by
   refine result_ok _ fb pb mb vs B so vo sa vars state u2 ((uh HFR).stays hA.drew) t (uh HSN) (uh HEQ) (uh HU2) (uh HQ2) oa oc (fun i hi => ?_)
   obtain ⟨g,h8,h7⟩:=h9 (by omega)
   refine ⟨g,u1.length,h7,?_⟩
   have h6:=uh HCEL g h8 i hi
   exact (hA.drew.cell (World.block_lt_of_cell? wr _ h6)).trans h6
  have HBX:=hide (blk_box wr #[.int .i64 t.op,.int .i64 t.val,.string t.name] 160)
  have hsub : u2.length = us.length - u1.length:=by omega
  rw [hsub] at HRES
  generalize evF vs vars state t u2 = r at *
  have hle : (u1.length : Int) ≤ (us.length : Int):=by omega
  have hu1c : u1.length ≤ 6000:=by omega
  clear hA htk HO HCEL HFR HEQ HQ2 HU2 HF HCV hul hsub
  rcases uh HSH with ⟨hs1,hs2⟩ | ⟨g,cap,hs1,_,_,hs2⟩
  ·simp only [Value.slice.injEq] at hs1
   obtain ⟨rfl,hs3,rfl⟩:=hs1
   have hz : (0 = u1.length) = True:=eq_true (by omega)
   have h0 : ¬ 0 < us.length - u1.length:=by omega
   have g : Nat:=0
   have hz1 : u1.length = 0:=by omega
   rw [hz1] at HCUT
   have HU0 : Hid (u1 = []):=List.eq_nil_of_length_eq_zero hz1
   clear hs2 hs3 hz1
   have HR2 : Hid (Calls Tryz.prog 112 #[.pointer (some ⟨fb,0,none⟩),.agg #[.int .i64 t.op,.int .i64 t.val,.string t.name],.slice none (us.length - u1.length) 0] (wr.alloc (.cells #[.int .i64 t.op,.int .i64 t.val,.string t.name] 160)).drew fun e w' => e = .returned (.int .i32 r) ∧ Hid (Below wr.heap.size wr w') ∧ w'.cell? ⟨wr.heap.size,0,none⟩ = some (.int .i64 t.op) ∧ w'.cell? ⟨wr.heap.size,1,none⟩ = some (.int .i64 t.val) ∧ w'.cell? ⟨wr.heap.size,2,none⟩ = some (.string t.name)):=by
    refine hide ((uh HRES none 0 (fun h9 => by first | exact ⟨g,rfl,rfl⟩ | (exfalso; omega))).mono ?_)
    rintro e w' ⟨rfl,hb⟩
    have hbk:=(uh HBX).below (B:=(wr.alloc (.cells #[.int .i64 t.op,.int .i64 t.val,.string t.name] 160)).heap.size) (below_drew_l hb) (uh HBX).lt
    exact ⟨rfl,(uh HA).trans ((below_drew_l hb).mono (uh HA).size),hbk.cell (i:=0) rfl,hbk.cell (i:=1) rfl,hbk.cell (i:=2) rfl⟩
   clear HRES HSH HUS h0
   go_wp2_with fail
   refine (uh HOC _).mono ?_
   rintro e w1 ⟨rfl,rfl⟩
   go_wp2_with fail
   have b0:=(uh HBX).cell (i:=0) (v:=.int .i64 t.op) rfl
   have b1:=(uh HBX).cell (i:=1) (v:=.int .i64 t.val) rfl
   have b2:=(uh HBX).cell (i:=2) (v:=.string t.name) rfl
   generalize wr.alloc (.cells #[.int .i64 t.op,.int .i64 t.val,.string t.name] 160) = wI at *
   go_region_held3 (fun w' => w'.cell? ⟨wr.heap.size,0,none⟩ = some (.int .i64 t.op) ∧ w'.cell? ⟨wr.heap.size,1,none⟩ = some (.int .i64 t.val) ∧ w'.cell? ⟨wr.heap.size,2,none⟩ = some (.string t.name)) (go_keep) (first | (go_at_call 112; refine (uh HR2).mono ?_; rintro e w2 ⟨rfl,HB2,b0',b1',b2'⟩))
   clear b0 b1 b2 b0' b1' b2' HR2 HBX HA c0 c1 c2
   have hA2 : Below w2.heap.size w2 (w2.alloc (.cells #[.int .i32 r] 21)):=(Below.refl _ _).alloc (Nat.le_refl _) _
   have HA2:=hide hA2
   have HO4:=hide (((uh HCUT).below (uh HB2)).below hA2)
   have hbs : base ≤ (w2.alloc (.cells #[.int .i32 r] 21)).heap.size:=Nat.le_trans (Nat.le_trans (uh HD).bw (uh HBT).size) (Nat.le_trans (uh HB2).size hA2.size)
   have HBS:=hide hbs
   clear hA2 hbs HCUT
   go_wp2_with (at_builtin; go_must (refine wpList_append_oneN el32 _ rfl _ _ rfl base _ u1 rfl (uh HO4) w2.heap.size r rfl (fun j u hu => by rw [World.cell?_alloc_at _ _ _ _ rfl]; simpa [el32] using hu) (by simp [el32]; omega) (uh HBS) ?_))
   intro v' w5 ho5 hg5 hn5
   have HO5:=hide ho5
   have HB5 : Hid (But (blkL (.slice ka xs0.length kc)) w w5):=by
    have h1 : But (blkL (.slice ka xs0.length kc)) w (w2.alloc (.cells #[.int .i32 r] 21)):=(uh HBT).trans (But.of_below ((uh HB2).trans ((uh HA2).mono (uh HB2).size)))
    refine h1.then (But.ofGrown hg5) (fun x hx => ?_)
    have h2:=mem_blkL.1 hx
    rcases uh HMV x h2 with h3 | h3
    ·exact Or.inl (mem_blkL.2 h3)
    ·exact Or.inr h3
   have HM5 : Hid (Moved w (.slice ka xs0.length kc) v'):=fun b hb => by
    rcases hn5 b hb with h2 | h2
    ·exact uh HMV b h2
    ·have:=(uh HBT).size
     have:=(uh HB2).size
     have:=(uh HA2).size
     exact Or.inr (by omega)
   clear ho5 hg5 hn5
   go_wp2
   go_roundg (code.length - (q + 1))
   case measure => have:=uh HG9; omega
   case rel => exact ⟨q + 1,u1 ++ [r],v',by omega,rfl,by go_num,rfl,(by have h9:=uh HO5; rw [uh HU0]; exact h9),uh HF2,uh HWK2,uh HB5,uh HM5⟩
  simp only [Value.slice.injEq] at hs1
  obtain ⟨rfl,_,rfl⟩:=hs1
  have hcI : (us.length : Int) ≤ (sc2 : Int):=by omega
  have hcI1 : (u1.length : Int) ≤ (sc2 : Int):=by omega
  by_cases hcap : sc2 = u1.length
  ·have hz : (sc2 = u1.length) = True:=eq_true hcap
   have h0 : ¬ 0 < us.length - u1.length:=by omega
   clear hcap hs2
   have HR2 : Hid (Calls Tryz.prog 112 #[.pointer (some ⟨fb,0,none⟩),.agg #[.int .i64 t.op,.int .i64 t.val,.string t.name],.slice (some ⟨g,0,none⟩) (us.length - u1.length) (sc2 - u1.length)] (wr.alloc (.cells #[.int .i64 t.op,.int .i64 t.val,.string t.name] 160)).drew fun e w' => e = .returned (.int .i32 r) ∧ Hid (Below wr.heap.size wr w') ∧ w'.cell? ⟨wr.heap.size,0,none⟩ = some (.int .i64 t.op) ∧ w'.cell? ⟨wr.heap.size,1,none⟩ = some (.int .i64 t.val) ∧ w'.cell? ⟨wr.heap.size,2,none⟩ = some (.string t.name)):=by
    refine hide ((uh HRES (some ⟨g,0,none⟩) (sc2 - u1.length) (fun h9 => by first | exact ⟨g,rfl,rfl⟩ | (exfalso; omega))).mono ?_)
    rintro e w' ⟨rfl,hb⟩
    have hbk:=(uh HBX).below (B:=(wr.alloc (.cells #[.int .i64 t.op,.int .i64 t.val,.string t.name] 160)).heap.size) (below_drew_l hb) (uh HBX).lt
    exact ⟨rfl,(uh HA).trans ((below_drew_l hb).mono (uh HA).size),hbk.cell (i:=0) rfl,hbk.cell (i:=1) rfl,hbk.cell (i:=2) rfl⟩
   clear HRES HSH HUS h0
   go_wp2_with fail
   refine (uh HOC _).mono ?_
   rintro e w1 ⟨rfl,rfl⟩
   go_wp2_with fail
   have b0:=(uh HBX).cell (i:=0) (v:=.int .i64 t.op) rfl
   have b1:=(uh HBX).cell (i:=1) (v:=.int .i64 t.val) rfl
   have b2:=(uh HBX).cell (i:=2) (v:=.string t.name) rfl
   generalize wr.alloc (.cells #[.int .i64 t.op,.int .i64 t.val,.string t.name] 160) = wI at *
   go_region_held3 (fun w' => w'.cell? ⟨wr.heap.size,0,none⟩ = some (.int .i64 t.op) ∧ w'.cell? ⟨wr.heap.size,1,none⟩ = some (.int .i64 t.val) ∧ w'.cell? ⟨wr.heap.size,2,none⟩ = some (.string t.name)) (go_keep) (first | (go_at_call 112; refine (uh HR2).mono ?_; rintro e w2 ⟨rfl,HB2,b0',b1',b2'⟩))
   clear b0 b1 b2 b0' b1' b2' HR2 HBX HA c0 c1 c2
   have hA2 : Below w2.heap.size w2 (w2.alloc (.cells #[.int .i32 r] 21)):=(Below.refl _ _).alloc (Nat.le_refl _) _
   have HA2:=hide hA2
   have HO4:=hide (((uh HCUT).below (uh HB2)).below hA2)
   have hbs : base ≤ (w2.alloc (.cells #[.int .i32 r] 21)).heap.size:=Nat.le_trans (Nat.le_trans (uh HD).bw (uh HBT).size) (Nat.le_trans (uh HB2).size hA2.size)
   have HBS:=hide hbs
   clear hA2 hbs HCUT
   go_wp2_with (at_builtin; go_must (refine wpList_append_oneN el32 _ rfl _ _ rfl base _ u1 rfl (uh HO4) w2.heap.size r rfl (fun j u hu => by rw [World.cell?_alloc_at _ _ _ _ rfl]; simpa [el32] using hu) (by simp [el32]; omega) (uh HBS) ?_))
   intro v' w5 ho5 hg5 hn5
   have HO5:=hide ho5
   have HB5 : Hid (But (blkL (.slice ka xs0.length kc)) w w5):=by
    have h1 : But (blkL (.slice ka xs0.length kc)) w (w2.alloc (.cells #[.int .i32 r] 21)):=(uh HBT).trans (But.of_below ((uh HB2).trans ((uh HA2).mono (uh HB2).size)))
    refine h1.then (But.ofGrown hg5) (fun x hx => ?_)
    have h2:=mem_blkL.1 hx
    rcases uh HMV x h2 with h3 | h3
    ·exact Or.inl (mem_blkL.2 h3)
    ·exact Or.inr h3
   have HM5 : Hid (Moved w (.slice ka xs0.length kc) v'):=fun b hb => by
    rcases hn5 b hb with h2 | h2
    ·exact uh HMV b h2
    ·have:=(uh HBT).size
     have:=(uh HB2).size
     have:=(uh HA2).size
     exact Or.inr (by omega)
   clear ho5 hg5 hn5
   go_wp2
   go_roundg (code.length - (q + 1))
   case measure => have:=uh HG9; omega
   case rel => exact ⟨q + 1,u1 ++ [r],v',by omega,rfl,by go_num,rfl,uh HO5,uh HF2,uh HWK2,uh HB5,uh HM5⟩
  have hc0 : ¬ sc2 = 0:=by omega
  have HR2 : Hid (Calls Tryz.prog 112 #[.pointer (some ⟨fb,0,none⟩),.agg #[.int .i64 t.op,.int .i64 t.val,.string t.name],.slice (some ⟨g,u1.length,none⟩) (us.length - u1.length) (sc2 - u1.length)] (wr.alloc (.cells #[.int .i64 t.op,.int .i64 t.val,.string t.name] 160)).drew fun e w' => e = .returned (.int .i32 r) ∧ Hid (Below wr.heap.size wr w') ∧ w'.cell? ⟨wr.heap.size,0,none⟩ = some (.int .i64 t.op) ∧ w'.cell? ⟨wr.heap.size,1,none⟩ = some (.int .i64 t.val) ∧ w'.cell? ⟨wr.heap.size,2,none⟩ = some (.string t.name)):=by
   refine hide ((uh HRES (some ⟨g,u1.length,none⟩) (sc2 - u1.length) (fun h9 => by first | exact ⟨g,rfl,rfl⟩ | (exfalso; omega))).mono ?_)
   rintro e w' ⟨rfl,hb⟩
   have hbk:=(uh HBX).below (B:=(wr.alloc (.cells #[.int .i64 t.op,.int .i64 t.val,.string t.name] 160)).heap.size) (below_drew_l hb) (uh HBX).lt
   exact ⟨rfl,(uh HA).trans ((below_drew_l hb).mono (uh HA).size),hbk.cell (i:=0) rfl,hbk.cell (i:=1) rfl,hbk.cell (i:=2) rfl⟩
  clear HRES HSH HUS
  go_wp2_with fail
  refine (uh HOC _).mono ?_
  rintro e w1 ⟨rfl,rfl⟩
  go_wp2_with fail
  have b0:=(uh HBX).cell (i:=0) (v:=.int .i64 t.op) rfl
  have b1:=(uh HBX).cell (i:=1) (v:=.int .i64 t.val) rfl
  have b2:=(uh HBX).cell (i:=2) (v:=.string t.name) rfl
  generalize wr.alloc (.cells #[.int .i64 t.op,.int .i64 t.val,.string t.name] 160) = wI at *
  go_region_held3 (fun w' => w'.cell? ⟨wr.heap.size,0,none⟩ = some (.int .i64 t.op) ∧ w'.cell? ⟨wr.heap.size,1,none⟩ = some (.int .i64 t.val) ∧ w'.cell? ⟨wr.heap.size,2,none⟩ = some (.string t.name)) (go_keep) (first | (go_at_call 112; refine (uh HR2).mono ?_; rintro e w2 ⟨rfl,HB2,b0',b1',b2'⟩))
  clear b0 b1 b2 b0' b1' b2' HR2 HBX HA c0 c1 c2
  have hA2 : Below w2.heap.size w2 (w2.alloc (.cells #[.int .i32 r] 21)):=(Below.refl _ _).alloc (Nat.le_refl _) _
  have HA2:=hide hA2
  have HO4:=hide (((uh HCUT).below (uh HB2)).below hA2)
  have hbs : base ≤ (w2.alloc (.cells #[.int .i32 r] 21)).heap.size:=Nat.le_trans (Nat.le_trans (uh HD).bw (uh HBT).size) (Nat.le_trans (uh HB2).size hA2.size)
  have HBS:=hide hbs
  clear hA2 hbs HCUT
  go_wp2_with (at_builtin; go_must (refine wpList_append_oneN el32 _ rfl _ _ rfl base _ u1 rfl (uh HO4) w2.heap.size r rfl (fun j u hu => by rw [World.cell?_alloc_at _ _ _ _ rfl]; simpa [el32] using hu) (by simp [el32]; omega) (uh HBS) ?_))
  intro v' w5 ho5 hg5 hn5
  have HO5:=hide ho5
  have HB5 : Hid (But (blkL (.slice ka xs0.length kc)) w w5):=by
   have h1 : But (blkL (.slice ka xs0.length kc)) w (w2.alloc (.cells #[.int .i32 r] 21)):=(uh HBT).trans (But.of_below ((uh HB2).trans ((uh HA2).mono (uh HB2).size)))
   refine h1.then (But.ofGrown hg5) (fun x hx => ?_)
   have h2:=mem_blkL.1 hx
   rcases uh HMV x h2 with h3 | h3
   ·exact Or.inl (mem_blkL.2 h3)
   ·exact Or.inr h3
  have HM5 : Hid (Moved w (.slice ka xs0.length kc) v'):=fun b hb => by
   rcases hn5 b hb with h2 | h2
   ·exact uh HMV b h2
   ·have:=(uh HBT).size
    have:=(uh HB2).size
    have:=(uh HA2).size
    exact Or.inr (by omega)
  clear ho5 hg5 hn5
  go_wp2
  go_roundg (code.length - (q + 1))
  case measure => have:=uh HG9; omega
  case rel => exact ⟨q + 1,u1 ++ [r],v',by omega,rfl,by go_num,rfl,uh HO5,uh HF2,uh HWK2,uh HB5,uh HM5⟩
end Go.Proofs.YtjjldnkhadakcaaGreat
