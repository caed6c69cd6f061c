import Derived.Test.YtajabbnlbopcbaaGreatDoorVM1
import Derived.Test.YtajabbnlbopcbaaGreatDoorVT0
namespace Go.Proofs.YtajabbnlbopcbaaGreatDoor
open Go.RowKit
set_option linter.unusedSimpArgs false
set_option linter.unusedVariables false
def Kz (lo hi : Nat) (X : World) (kv : Value) (k : List DCond) : Prop:=RowD elCond okC X kv k (blkOf kv) ∧ ∀ b,b ∈ blkOf kv → Sd lo hi X b
theorem Kz.nil (lo hi : Nat) (X : World) : Kz lo hi X (.slice none 0 0) []:=⟨⟨OwnV.nil _ _,fun x hx => absurd hx (List.not_mem_nil),by simp,rfl⟩,fun b hb => absurd hb (List.not_mem_nil)⟩
theorem Kz.kp {T h lo hi : Nat} {X Y : World} {kv : Value} {k : List DCond} (p : Kz lo hi X kv k) (q : KpH T h X Y) (ht : T ∉ tyS ∨ hi ≤ h) : Kz lo hi Y kv k:=⟨p.1.fr (fun b hb => ((p.2 b hb).kp q ht).1),fun b hb => ((p.2 b hb).kp q ht).2⟩
theorem Kz.sl {lo hi l : Nat} {X : World} {kv : Value} {k : List DCond} (p : Kz lo hi X kv k) (hl : l ≤ lo) : SlAt 2 24 RCond l X kv k:=p.1.slLo (fun b hb => Nat.le_trans hl (p.2 b hb).1) (fun x hx => ⟨rfl,hx⟩)
theorem Kz.var {lo hi : Nat} {X : World} {a : Option Addr} {n c : Nat} {x : DVar} (p : Kz lo hi X (.slice a n c) x.clock) (hv : okW x) : TVar X (rawVar x.name x.type a n c).1 x (blkOf (.slice a n c)) :=
 ⟨_,rfl,plain_len hv.1,by have:=hv.2.1; unfold I64; omega,p.1⟩
structure Nz (code : List Int) (W0 : World) (cb : Nat) (cv : Value) (w : World) (rb nb sb : Nat) (X : World) (c : Cur) (nm : ByteArray) (sv vi vo vv qv ev : Value) (rank : Nat) (xs is os vs : List DVar) (qs es : List DEq) (hi : Nat) : Prop where
 cu : CuAt code W0 cb cv X c
 tr : Tr cb w X
 lc : cb < w.heap.size
 rbl : w.heap.size ≤ rb
 nbl : w.heap.size ≤ nb
 sbl : w.heap.size ≤ sb
 rn : rb ≠ nb
 rbx : BlkAt X rb 43 #[.string ⟨#[]⟩,.slice none 0 0,.slice none 0 0,.slice none 0 0,.slice none 0 0]
 nbx : BlkAt X nb 43 #[.string nm,vi,vo,vv,qv]
 sbx : BlkAt X sb 91 #[sv,.int .i64 rank]
 vz : Vz w.heap.size hi X sv vi vo vv xs is os vs
 qz : Qz w.heap.size hi X ev qv es qs
 hl : hi ≤ X.heap.size
section
variable {code : List Int} {W0 : World} {cb : Nat} {cv : Value} {w : World} {rb nb sb : Nat} {X : World} {c : Cur} {nm : ByteArray} {sv vi vo vv qv ev : Value} {rank : Nat} {xs is os vs : List DVar} {qs es : List DEq} {hi : Nat} {Y A : World} {c' : Cur} {T h : Nat}
theorem Nz.kp (p : Nz code W0 cb cv w rb nb sb X c nm sv vi vo vv qv ev rank xs is os vs qs es hi) (q : KpH T h X Y) (hw : w.heap.size ≤ h) (h1 : 43 ≠ T) (h2 : 91 ≠ T) (h3 : 67 ≠ T) (hS : T ∉ tyS ∨ hi ≤ h) (hE : 58 ≠ T ∨ hi ≤ h) : Nz code W0 cb cv w rb nb sb Y c nm sv vi vo vv qv ev rank xs is os vs qs es hi :=
 ⟨p.cu.kp q (by have:=p.lc; omega),p.tr.kp q hw,p.lc,p.rbl,p.nbl,p.sbl,p.rn,p.rbx.kp q (Or.inl h1),p.nbx.kp q (Or.inl h1),p.sbx.kp q (Or.inl h2),p.vz.kp q hS h3,p.qz.kp q hS hE,Nat.le_trans p.hl q.size⟩
theorem Nz.below (p : Nz code W0 cb cv w rb nb sb X c nm sv vi vo vv qv ev rank xs is os vs qs es hi) (hb : Below X.heap.size X Y) : Nz code W0 cb cv w rb nb sb Y c nm sv vi vo vv qv ev rank xs is os vs qs es hi:=p.kp (KpH.below 1000000 X.heap.size hb) p.tr.size (by decide) (by decide) (by decide) (Or.inr p.hl) (Or.inl (by decide))
theorem Nz.go (p : Nz code W0 cb cv w rb nb sb X c nm sv vi vo vv qv ev rank xs is os vs qs es hi) (hc : CuAt code W0 cb cv Y c') (ht : Tr cb X Y) : Nz code W0 cb cv w rb nb sb Y c' nm sv vi vo vv qv ev rank xs is os vs qs es hi :=
 have q : KpH 36 cb X Y:=KpH.ofTr ht p.cu.blk (Nat.le_refl _)
 ⟨hc,p.tr.trans ht,p.lc,p.rbl,p.nbl,p.sbl,p.rn,p.rbx.kp q (Or.inl (by decide)),p.nbx.kp q (Or.inl (by decide)),p.sbx.kp q (Or.inl (by decide)),p.vz.kp q (Or.inl (by decide)) (by decide),p.qz.kp q (Or.inl (by decide)) (Or.inl (by decide)),Nat.le_trans p.hl ht.size⟩
theorem Nz.room (p : Nz code W0 cb cv w rb nb sb X c nm sv vi vo vv qv ev rank xs is os vs qs es hi) (r : Int) : Nz code W0 cb cv w rb nb sb (X.setCell ⟨cb,2,none⟩ (.int .i64 r)) (setR r c) nm sv vi vo vv qv ev rank xs is os vs qs es hi:=p.go (p.cu.go (Tr.setCell _ _ _ _) (p.cu.blk.set 2 _)) (Tr.setCell _ _ _ _)
theorem Nz.up (p : Nz code W0 cb cv w rb nb sb X c nm sv vi vo vv qv ev rank xs is os vs qs es hi) {hi' : Nat} (h1 : hi ≤ hi') (h2 : hi' ≤ X.heap.size) : Nz code W0 cb cv w rb nb sb X c nm sv vi vo vv qv ev rank xs is os vs qs es hi':=⟨p.cu,p.tr,p.lc,p.rbl,p.nbl,p.sbl,p.rn,p.rbx,p.nbx,p.sbx,p.vz.up h1,p.qz.up h1,h2⟩
theorem Nz.setRk (p : Nz code W0 cb cv w rb nb sb X c nm sv vi vo vv qv ev rank xs is os vs qs es hi) (r : Nat) : Nz code W0 cb cv w rb nb sb (X.setCell ⟨sb,1,none⟩ (.int .i64 r)) c nm sv vi vo vv qv ev r xs is os vs qs es hi :=
 have q : KpH 91 w.heap.size X (X.setCell ⟨sb,1,none⟩ (.int .i64 r)):=KpH.set p.sbx p.sbl 1 _
 ⟨p.cu.kp q p.lc,p.tr.kp q (Nat.le_refl _),p.lc,p.rbl,p.nbl,p.sbl,p.rn,p.rbx.kp q (Or.inl (by decide)),p.nbx.kp q (Or.inl (by decide)),p.sbx.set 1 _,p.vz.kp q (Or.inl (by decide)) (by decide),p.qz.kp q (Or.inl (by decide)) (Or.inl (by decide)),Nat.le_trans p.hl q.size⟩
theorem Nz.vars (p : Nz code W0 cb cv w rb nb sb X c nm sv vi vo vv qv ev rank xs is os vs qs es hi) (hl : xs.length ≤ 1000) : SlAt 3 48 RVar (cb + 1) X sv xs:=p.vz.s.vars (by omega) p.hl p.lc
theorem Nz.pushS (p : Nz code W0 cb cv w rb nb sb X c nm sv vi vo vv qv ev rank xs is os vs qs es hi) {x : DVar} (hx : okW x) {ka : Option Addr} {kn kc : Nat} (hk : Kz w.heap.size hi X (.slice ka kn kc) x.clock) (hl : xs.length ≤ 900) :
  ∃ a' n' c' Z,Hid ((Builtin.append_ #[40,40] 40 #[sv,.slice (some ⟨X.heap.size,0,none⟩) 1 1]).run Tryz.prog (X.alloc (.cells #[.string x.name,.int .i64 x.type,.slice ka kn kc] 67)) = .ok (.slice a' n' c') Z) ∧ BlkAt Z sb 91 #[sv,.int .i64 rank] ∧ Hid (Nz code W0 cb cv w rb nb sb (Z.setCell ⟨sb,0,none⟩ (.slice a' n' c')) c nm (.slice a' n' c') vi vo vv qv ev rank (xs ++ [x]) is os vs qs es hi) ∧ n' = xs.length + 1 ∧ Hid (KpH 67 w.heap.size X Z ∧ (∀ g cs,BlkAt X g 67 cs → sv.ownBlock ≠ some g → BlkAt Z g 67 cs) ∧ ∀ b,(Value.slice a' n' c').ownBlock = some b → sv.ownBlock = some b ∨ X.heap.size < b):=by
 have hA : Below X.heap.size X (X.alloc (.cells #[.string x.name,.int .i64 x.type,.slice ka kn kc] 67)):=(Below.refl _ _).alloc (Nat.le_refl _) _
 have pA:=p.below hA
 have hwX:=p.tr.size
 have qA:=KpH.below 1000000 X.heap.size hA
 have hkA:=hk.kp qA (Or.inr p.hl)
 obtain ⟨v',Z,g1,g2,g3,g4⟩:=pA.vz.pushS (Nat.le_trans hwX hA.size) (hkA.var hx) hkA.2 (eb:=X.heap.size) (blk_box X _ _) (by omega)
 obtain ⟨a',c',rfl⟩:=g2.s.slice
 have hq:=pA.vz.s.blk
 have q : KpH 67 w.heap.size (X.alloc (.cells #[.string x.name,.int .i64 x.type,.slice ka kn kc] 67)) Z:=KpH.ofGrown g3 (fun b hb => ⟨(hq b hb).1,(hq b hb).2.2⟩)
 have hbZ:=pA.sbx.kp q (Or.inl (by decide))
 have q2 : KpH 91 w.heap.size Z (Z.setCell ⟨sb,0,none⟩ (.slice a' (xs ++ [x]).length c')):=KpH.set hbZ p.sbl 0 _
 have hsz : (X.alloc (.cells #[.string x.name,.int .i64 x.type,.slice ka kn kc] 67)).heap.size = X.heap.size + 1:=by simp
 refine ⟨a',_,c',Z,g1,hbZ,⟨(pA.cu.kp q p.lc).kp q2 p.lc,(pA.tr.kp q (Nat.le_refl _)).kp q2 (Nat.le_refl _),p.lc,p.rbl,p.nbl,p.sbl,p.rn,(pA.rbx.kp q (Or.inl (by decide))).kp q2 (Or.inl (by decide)),(pA.nbx.kp q (Or.inl (by decide))).kp q2 (Or.inl (by decide)),hbZ.set 0 _,g2.kp q2 (Or.inl (by decide)) (by decide),(pA.qz.kp q (Or.inl (by decide)) (Or.inl (by decide))).kp q2 (Or.inl (by decide)) (Or.inl (by decide)),Nat.le_trans p.hl (Nat.le_trans hA.size (Nat.le_trans q.size q2.size))⟩,by simp,(KpH.below _ _ hA).trans q,fun g cs hg hne => (g3.block g (Nat.lt_of_lt_of_le hg.lt hA.size) (fun e => hne e.symm)).trans (hg.below hA hg.lt),fun b hb => ?_⟩
 rcases g4 b hb with h9 | h9
 ·exact Or.inl h9
 ·exact Or.inr (by omega)
theorem Nz.pushV (p : Nz code W0 cb cv w rb nb sb X c nm sv vi vo vv qv ev rank xs is os vs qs es hi) {x : DVar} (hx : okW x) {ka : Option Addr} {kn kc : Nat} (hk : Kz w.heap.size hi X (.slice ka kn kc) x.clock) (hl : vs.length ≤ 900) :
  ∃ a' n' c' Z,Hid ((Builtin.append_ #[40,40] 40 #[vv,.slice (some ⟨X.heap.size,0,none⟩) 1 1]).run Tryz.prog (X.alloc (.cells #[.string x.name,.int .i64 x.type,.slice ka kn kc] 67)) = .ok (.slice a' n' c') Z) ∧ BlkAt Z nb 43 #[.string nm,vi,vo,vv,qv] ∧ Hid (Nz code W0 cb cv w rb nb sb (Z.setCell ⟨nb,3,none⟩ (.slice a' n' c')) c nm sv vi vo (.slice a' n' c') qv ev rank xs is os (vs ++ [x]) qs es hi) ∧ n' = vs.length + 1 ∧ Hid (KpH 67 w.heap.size X Z ∧ (∀ g cs,BlkAt X g 67 cs → vv.ownBlock ≠ some g → BlkAt Z g 67 cs) ∧ ∀ b,(Value.slice a' n' c').ownBlock = some b → vv.ownBlock = some b ∨ X.heap.size < b):=by
 have hA : Below X.heap.size X (X.alloc (.cells #[.string x.name,.int .i64 x.type,.slice ka kn kc] 67)):=(Below.refl _ _).alloc (Nat.le_refl _) _
 have pA:=p.below hA
 have hwX:=p.tr.size
 have qA:=KpH.below 1000000 X.heap.size hA
 have hkA:=hk.kp qA (Or.inr p.hl)
 obtain ⟨v',Z,g1,g2,g3,g4⟩:=pA.vz.pushV (Nat.le_trans hwX hA.size) (hkA.var hx) hkA.2 (eb:=X.heap.size) (blk_box X _ _) (by omega)
 obtain ⟨a',c',rfl⟩:=g2.v.slice
 have hq:=pA.vz.v.blk
 have q : KpH 67 w.heap.size (X.alloc (.cells #[.string x.name,.int .i64 x.type,.slice ka kn kc] 67)) Z:=KpH.ofGrown g3 (fun b hb => ⟨(hq b hb).1,(hq b hb).2.2⟩)
 have hbZ:=pA.nbx.kp q (Or.inl (by decide))
 have q2 : KpH 43 w.heap.size Z (Z.setCell ⟨nb,3,none⟩ (.slice a' (vs ++ [x]).length c')):=KpH.set hbZ p.nbl 3 _
 have hsz : (X.alloc (.cells #[.string x.name,.int .i64 x.type,.slice ka kn kc] 67)).heap.size = X.heap.size + 1:=by simp
 refine ⟨a',_,c',Z,g1,hbZ,⟨(pA.cu.kp q p.lc).kp q2 p.lc,(pA.tr.kp q (Nat.le_refl _)).kp q2 (Nat.le_refl _),p.lc,p.rbl,p.nbl,p.sbl,p.rn,(Tr.setCell _ _ _ _).blk (pA.rbx.kp q (Or.inl (by decide))) p.rn,hbZ.set 3 _,(pA.sbx.kp q (Or.inl (by decide))).kp q2 (Or.inl (by decide)),g2.kp q2 (Or.inl (by decide)) (by decide),(pA.qz.kp q (Or.inl (by decide)) (Or.inl (by decide))).kp q2 (Or.inl (by decide)) (Or.inl (by decide)),Nat.le_trans p.hl (Nat.le_trans hA.size (Nat.le_trans q.size q2.size))⟩,by simp,(KpH.below _ _ hA).trans q,fun g cs hg hne => (g3.block g (Nat.lt_of_lt_of_le hg.lt hA.size) (fun e => hne e.symm)).trans (hg.below hA hg.lt),fun b hb => ?_⟩
 rcases g4 b hb with h9 | h9
 ·exact Or.inl h9
 ·exact Or.inr (by omega)
theorem Nz.pushO (p : Nz code W0 cb cv w rb nb sb X c nm sv vi vo vv qv ev rank xs is os vs qs es hi) {x : DVar} (hx : okW x) {ka : Option Addr} {kn kc : Nat} (hk : Kz w.heap.size hi X (.slice ka kn kc) x.clock) (hl : os.length ≤ 900) :
  ∃ a' n' c' Z,Hid ((Builtin.append_ #[40,40] 40 #[vo,.slice (some ⟨X.heap.size,0,none⟩) 1 1]).run Tryz.prog (X.alloc (.cells #[.string x.name,.int .i64 x.type,.slice ka kn kc] 67)) = .ok (.slice a' n' c') Z) ∧ BlkAt Z nb 43 #[.string nm,vi,vo,vv,qv] ∧ Hid (Nz code W0 cb cv w rb nb sb (Z.setCell ⟨nb,2,none⟩ (.slice a' n' c')) c nm sv vi (.slice a' n' c') vv qv ev rank xs is (os ++ [x]) vs qs es hi) ∧ n' = os.length + 1 ∧ Hid (KpH 67 w.heap.size X Z ∧ (∀ g cs,BlkAt X g 67 cs → vo.ownBlock ≠ some g → BlkAt Z g 67 cs) ∧ ∀ b,(Value.slice a' n' c').ownBlock = some b → vo.ownBlock = some b ∨ X.heap.size < b):=by
 have hA : Below X.heap.size X (X.alloc (.cells #[.string x.name,.int .i64 x.type,.slice ka kn kc] 67)):=(Below.refl _ _).alloc (Nat.le_refl _) _
 have pA:=p.below hA
 have hwX:=p.tr.size
 have qA:=KpH.below 1000000 X.heap.size hA
 have hkA:=hk.kp qA (Or.inr p.hl)
 obtain ⟨v',Z,g1,g2,g3,g4⟩:=pA.vz.pushO (Nat.le_trans hwX hA.size) (hkA.var hx) hkA.2 (eb:=X.heap.size) (blk_box X _ _) (by omega)
 obtain ⟨a',c',rfl⟩:=g2.o.slice
 have hq:=pA.vz.o.blk
 have q : KpH 67 w.heap.size (X.alloc (.cells #[.string x.name,.int .i64 x.type,.slice ka kn kc] 67)) Z:=KpH.ofGrown g3 (fun b hb => ⟨(hq b hb).1,(hq b hb).2.2⟩)
 have hbZ:=pA.nbx.kp q (Or.inl (by decide))
 have q2 : KpH 43 w.heap.size Z (Z.setCell ⟨nb,2,none⟩ (.slice a' (os ++ [x]).length c')):=KpH.set hbZ p.nbl 2 _
 have hsz : (X.alloc (.cells #[.string x.name,.int .i64 x.type,.slice ka kn kc] 67)).heap.size = X.heap.size + 1:=by simp
 refine ⟨a',_,c',Z,g1,hbZ,⟨(pA.cu.kp q p.lc).kp q2 p.lc,(pA.tr.kp q (Nat.le_refl _)).kp q2 (Nat.le_refl _),p.lc,p.rbl,p.nbl,p.sbl,p.rn,(Tr.setCell _ _ _ _).blk (pA.rbx.kp q (Or.inl (by decide))) p.rn,hbZ.set 2 _,(pA.sbx.kp q (Or.inl (by decide))).kp q2 (Or.inl (by decide)),g2.kp q2 (Or.inl (by decide)) (by decide),(pA.qz.kp q (Or.inl (by decide)) (Or.inl (by decide))).kp q2 (Or.inl (by decide)) (Or.inl (by decide)),Nat.le_trans p.hl (Nat.le_trans hA.size (Nat.le_trans q.size q2.size))⟩,by simp,(KpH.below _ _ hA).trans q,fun g cs hg hne => (g3.block g (Nat.lt_of_lt_of_le hg.lt hA.size) (fun e => hne e.symm)).trans (hg.below hA hg.lt),fun b hb => ?_⟩
 rcases g4 b hb with h9 | h9
 ·exact Or.inl h9
 ·exact Or.inr (by omega)
theorem Nz.pushE (p : Nz code W0 cb cv w rb nb sb X c nm sv vi vo vv qv ev rank xs is os vs qs es hi) {x : DEq} {a1 a2 a3 : Option Addr} {n1 n2 n3 c1 c2 c3 : Nat} {s : ByteArray} {bs : List Nat} (hx : TEq X (rawEq a1 n1 c1 a2 n2 c2 s a3 n3 c3).1 x bs) (hb : ∀ b,b ∈ bs → Sd w.heap.size hi X b) (hl : es.length ≤ 900) :
  ∃ a' n' c' Z,Hid ((Builtin.append_ #[41,41] 41 #[ev,.slice (some ⟨X.heap.size,0,none⟩) 1 1]).run Tryz.prog (X.alloc (.cells #[.slice a1 n1 c1,.slice a2 n2 c2,.string s,.slice a3 n3 c3] 58)) = .ok (.slice a' n' c') Z) ∧ Hid (Nz code W0 cb cv w rb nb sb Z c nm sv vi vo vv qv (.slice a' n' c') rank xs is os vs qs (es ++ [x]) Z.heap.size) ∧ n' = es.length + 1 ∧ Hid (KpH 58 w.heap.size X Z):=by
 have hA : Below X.heap.size X (X.alloc (.cells #[.slice a1 n1 c1,.slice a2 n2 c2,.string s,.slice a3 n3 c3] 58)):=(Below.refl _ _).alloc (Nat.le_refl _) _
 have pA:=p.below hA
 have hwX:=p.tr.size
 have qA:=KpH.below 1000000 X.heap.size hA
 have hs:=fun b hb9 => (hb b hb9).kp qA (Or.inr p.hl)
 obtain ⟨v',Z,g1,g2,g3⟩:=pA.qz.pushE (Nat.le_trans hwX hA.size) pA.hl (TEq_fr _ _ _ _ _ hx (fun b hb9 => (hs b hb9).1)) (fun b hb9 => (hs b hb9).2) (eb:=X.heap.size) (blk_box X _ _) (by omega)
 obtain ⟨a',c',rfl⟩:=g2.e.slice
 have hq:=pA.qz.e.blk
 have q : KpH 58 w.heap.size (X.alloc (.cells #[.slice a1 n1 c1,.slice a2 n2 c2,.string s,.slice a3 n3 c3] 58)) Z:=KpH.ofGrown g3 (fun b hb => ⟨(hq b hb).1,(hq b hb).2.2⟩)
 exact ⟨a',_,c',Z,g1,⟨pA.cu.kp q p.lc,pA.tr.kp q (Nat.le_refl _),p.lc,p.rbl,p.nbl,p.sbl,p.rn,pA.rbx.kp q (Or.inl (by decide)),pA.nbx.kp q (Or.inl (by decide)),pA.sbx.kp q (Or.inl (by decide)),(pA.vz.kp q (Or.inl (by decide)) (by decide)).up (Nat.le_trans pA.hl q.size),g2,Nat.le_refl _⟩,by simp,(KpH.below _ _ hA).trans q⟩
end
end Go.Proofs.YtajabbnlbopcbaaGreatDoor
namespace Go.Proofs.YtajabbnlbopcbaaGreatDoor
open Go.RowKit
set_option linter.unusedSimpArgs false
set_option linter.unusedVariables false
theorem itP_ok {t : DItem} (h : itP t) : okI t:=by
 have h1:=itP_op h
 obtain ⟨hi,hn⟩:=h
 obtain ⟨_,h2,h3⟩:=(it_iff t).1 hi
 have hv:=of_decide_eq_true h2
 have hlo : -2147483648 ≤ loI t.op ∧ hiI t.op ≤ 2147483648:=by
  unfold loI hiI
  constructor <;> (repeat' split) <;> omega
 refine ⟨?_,by unfold I64; omega,by unfold I64; omega⟩
 by_cases h9 : t.op = 3 ∨ t.op = 23 ∨ t.op = 24
 ·exact plain_len (hn h9)
 ·unfold nmB at h3
  rw [if_neg h9] at h3
  have h8:=of_decide_eq_true h3
  unfold Len
  omega
theorem len_no : Len noN.size:=by unfold Len; decide
theorem its_ok {c : List DItem} {ps : List Pc} (h : Ex c ps) : ∀ t,t ∈ c → okI t:=fun t ht => itP_ok (h.items t ht)
theorem own_sd {α : Type} {E : ElF Tryz.prog α} {lo B : Nat} {X : World} {v : Value} {xs : List α} (h : OwnV E X B v xs) (hB : lo ≤ B) (hE : E.T ∈ tyS) : ∀ b,b ∈ blkOf v → Sd lo X.heap.size X b:=fun b hb => by
 have h9:=World.ownsRow.lt h b (mem_blkOf.1 hb)
 obtain ⟨cur,hc⟩:=h.cellT (mem_blkOf.1 hb)
 exact ⟨by omega,h9.2,cur,_,hE,hc⟩
theorem str_box (X : World) (s : ByteArray) {B : Nat} (hB : B ≤ X.heap.size) : OwnV elStr (X.alloc (.cells #[.string s] 9)) B (.slice (some ⟨X.heap.size,0,none⟩) 1 1) [s] :=
 ⟨by simp [elStr],Or.inr ⟨X.heap.size,1,#[.string s],rfl,hB,blk_box X _ _,Nat.le_refl _,by simp [maxLen],by simp [elStr],by simp [elStr]⟩⟩
section
variable {code : List Int} {W0 : World} {cb : Nat} {cv : Value} {w : World} {rb nb sb : Nat} {X : World} {c : Cur} {nm : ByteArray} {sv vi vo vv qv ev : Value} {rank : Nat} {xs is os vs : List DVar} {qs es : List DEq} {hi : Nat} {Y A : World} {c' : Cur}
theorem Nz.pushEq (p : Nz code W0 cb cv w rb nb sb X c nm sv vi vo vv qv ev rank xs is os vs qs es hi) {s : ByteArray} (hs : plainB s = true) {its : List DItem} {ps : List Pc} (hx : Ex its ps) (hl : its.length ≤ 3000) {B : Nat} (hB : w.heap.size ≤ B) {a1 a : Option Addr} {c1 n cap : Nat} (h1 : OwnV elStr X B (.slice a1 1 c1) [s]) (h2 : OwnV elItem X B (.slice a n cap) its) (hel : es.length ≤ 900) :
  ∃ a' n' c' Z,Hid ((Builtin.append_ #[41,41] 41 #[ev,.slice (some ⟨X.heap.size,0,none⟩) 1 1]).run Tryz.prog (X.alloc (.cells #[.slice a1 1 c1,.slice a n cap,.string ⟨#[]⟩,.slice none 0 0] 58)) = .ok (.slice a' n' c') Z) ∧ Hid (Nz code W0 cb cv w rb nb sb Z c nm sv vi vo vv qv (.slice a' n' c') rank xs is os vs qs (es ++ [⟨[s],its,noN,[]⟩]) Z.heap.size) ∧ n' = es.length + 1 ∧ Hid (KpH 58 w.heap.size X Z):=by
 have h1D : RowD elStr okS X (.slice a1 1 c1) [s] (blkOf (.slice a1 1 c1)):=⟨h1.low (Nat.zero_le _),fun x hx9 => by rw [List.mem_singleton] at hx9; rw [hx9]; exact plain_len hs,by simp [elStr],rfl⟩
 have h2D : RowD elItem okI X (.slice a n cap) its (blkOf (.slice a n cap)):=⟨h2.low (Nat.zero_le _),its_ok hx,by simp [elItem]; omega,rfl⟩
 refine (p.up p.hl (Nat.le_refl _)).pushE (x:=⟨[s],its,noN,[]⟩) (bs:=blkOf (.slice a1 1 c1) ++ blkOf (.slice a n cap) ++ []) ⟨_,_,_,_,_,_,rfl,len_no,h1D,h2D,rowT_nil X,rfl⟩ (fun b hb => ?_) hel
 rw [List.append_nil] at hb
 rcases List.mem_append.1 hb with hb | hb
 ·exact own_sd h1 hB (by decide) b hb
 ·exact own_sd h2 hB (by decide) b hb
theorem Nz.exIn (p : Nz code W0 cb cv w rb nb sb X c nm sv vi vo vv qv ev rank xs is os vs qs es hi) (hl : xs.length ≤ 100) (hv : vsOK xs) {kv : Value} {k : List DCond} {h9 : Nat} (hk : Kz w.heap.size h9 X kv k) (hkk : kOK k) (hk4 : k.length ≤ 4) : ExIn code W0 cb cv xs X c sv kv k:=⟨p.cu,p.vars (by omega),hk.sl p.lc,hkk,hk4,hl,hv⟩
def Fou (Y : World) (sb vb : Nat) (sv : Value) (rank : Nat) (s : ByteArray) (ty : Int) : Prop:=Y.cell? ⟨sb,0,none⟩ = some sv ∧ Y.cell? ⟨sb,1,none⟩ = some (.int .i64 rank) ∧ Y.cell? ⟨vb,0,none⟩ = some (.string s) ∧ Y.cell? ⟨vb,1,none⟩ = some (.int .i64 ty)
variable {vb : Nat} {s : ByteArray} {ty : Int} {ke : Value} {kv : Value} {k : List DCond}
theorem Nz.fou (p : Nz code W0 cb cv w rb nb sb X c nm sv vi vo vv qv ev rank xs is os vs qs es hi) (hvb : BlkAt X vb 67 #[.string s,.int .i64 ty,ke]) : Fou X sb vb sv rank s ty:=⟨p.sbx.cell (i:=0) rfl,p.sbx.cell (i:=1) rfl,hvb.cell (i:=0) rfl,hvb.cell (i:=1) rfl⟩
theorem Nz.eqA (p : Nz code W0 cb cv w rb nb sb X c nm sv vi vo vv qv ev rank xs is os vs qs es hi) (hs : plainB s = true) (hvb : BlkAt X vb 67 #[.string s,.int .i64 ty,ke]) (hvl : w.heap.size ≤ vb) (hl : xs.length ≤ 100) (hv : vsOK xs) {h9 : Nat} (hk : Kz w.heap.size h9 X kv k) (hkk : kOK k) (hk4 : k.length ≤ 4) (hel : es.length ≤ 900) (kind : Int) (hok : okB 4371 c) :
  Calls Tryz.prog 32 #[.pointer (some ⟨cb,0,none⟩),.agg #[sv,.int .i64 rank],.int .i64 kind,kv,.bool false,.int .i64 0] X (fun e Y => ∃ a n cap a' n' c' Z,e = .returned (.slice a n cap) ∧ Y.cell? ⟨sb,0,none⟩ = some sv ∧ Y.cell? ⟨sb,1,none⟩ = some (.int .i64 rank) ∧ Y.cell? ⟨vb,0,none⟩ = some (.string s) ∧ Y.cell? ⟨vb,1,none⟩ = some (.int .i64 ty) ∧ sb < Y.heap.size ∧ vb < Y.heap.size ∧ Hid (Fou Z sb vb sv rank s ty) ∧ Hid ((Builtin.append_ #[41,41] 41 #[ev,.slice (some ⟨Y.heap.size + 1,0,none⟩) 1 1]).run Tryz.prog ((Y.alloc (.cells #[.string s] 9)).alloc (.cells #[.slice (some ⟨Y.heap.size,0,none⟩) 1 1,.slice a n cap,.string ⟨#[]⟩,.slice none 0 0] 58)) = .ok (.slice a' n' c') Z) ∧ Hid (Nz code W0 cb cv w rb nb sb Z (exF code xs rank 6 c kind k false).2 nm sv vi vo vv qv (.slice a' n' c') rank xs is os vs qs (es ++ [⟨[s],(exF code xs rank 6 c kind k false).1,noN,[]⟩]) Z.heap.size) ∧ Hid (n' = es.length + 1)):=by
 obtain ⟨⟨ps,hx⟩,hd2,hd3⟩:=exF_dr (code:=code) (rank:=rank) hv 6 c kind k false hkk
 have hs6 : szE 6 ≤ 1093:=by decide
 have hke : kE 6 = 4371:=by decide
 refine (exp_ok 6 0 rfl (Int.le_refl _) X c sv kv kind k false (p.exIn hl hv hk hkk hk4) (by rw [hke]; exact hok)).mono ?_
 rintro e Y ⟨a,cap,rfl,ho,hc,ht⟩
 have hlc:=p.lc
 have hwX:=p.tr.size
 have hvY:=ht.blk hvb (by omega)
 have pY:=p.go hc ht
 have hA : Below Y.heap.size Y (Y.alloc (.cells #[.string s] 9)):=(Below.refl _ _).alloc (Nat.le_refl _) _
 obtain ⟨a',n',c',Z,r1,r2,r3,r4⟩:=(pY.below hA).pushEq hs hx (by omega) hwX (str_box Y s ht.size) (ho.below hA) hel
 have hz : (Y.alloc (.cells #[.string s] 9)).heap.size = Y.heap.size + 1:=by simp
 rw [hz] at r1
 exact ⟨a,_,cap,a',n',c',Z,rfl,pY.sbx.cell (i:=0) rfl,pY.sbx.cell (i:=1) rfl,hvY.cell (i:=0) rfl,hvY.cell (i:=1) rfl,pY.sbx.lt,hvY.lt,(uh r2).fou ((hvY.below hA hvY.lt).kp (uh r4) (Or.inl (by decide))),r1,r2,r3⟩
theorem Nz.eqB (p : Nz code W0 cb cv w rb nb sb X c nm sv vi vo vv qv ev rank xs is os vs qs es hi) (hs : plainB s = true) (hvb : BlkAt X vb 67 #[.string s,.int .i64 ty,ke]) (hvl : w.heap.size ≤ vb) (hl : xs.length ≤ 100) (hv : vsOK xs) {h9 : Nat} (hk : Kz w.heap.size h9 X kv k) (hkk : kOK k) (hk4 : k.length ≤ 4) (hel : es.length ≤ 900) (kind : Int) (hok : okB 4371 c) {X0 : World} (hX : X = X0.alloc (.cells #[.string s] 9)) (hw0 : w.heap.size ≤ X0.heap.size) :
  Calls Tryz.prog 32 #[.pointer (some ⟨cb,0,none⟩),.agg #[sv,.int .i64 rank],.int .i64 kind,kv,.bool false,.int .i64 0] X (fun e Y => ∃ a n cap a' n' c' Z,e = .returned (.slice a n cap) ∧ Y.cell? ⟨sb,0,none⟩ = some sv ∧ Y.cell? ⟨sb,1,none⟩ = some (.int .i64 rank) ∧ Y.cell? ⟨vb,0,none⟩ = some (.string s) ∧ Y.cell? ⟨vb,1,none⟩ = some (.int .i64 ty) ∧ sb < Y.heap.size ∧ vb < Y.heap.size ∧ Hid (Fou Z sb vb sv rank s ty) ∧ Hid ((Builtin.append_ #[41,41] 41 #[ev,.slice (some ⟨Y.heap.size,0,none⟩) 1 1]).run Tryz.prog (Y.alloc (.cells #[.slice (some ⟨X0.heap.size,0,none⟩) 1 1,.slice a n cap,.string ⟨#[]⟩,.slice none 0 0] 58)) = .ok (.slice a' n' c') Z) ∧ Hid (Nz code W0 cb cv w rb nb sb Z (exF code xs rank 6 c kind k false).2 nm sv vi vo vv qv (.slice a' n' c') rank xs is os vs qs (es ++ [⟨[s],(exF code xs rank 6 c kind k false).1,noN,[]⟩]) Z.heap.size) ∧ Hid (n' = es.length + 1)):=by
 obtain ⟨⟨ps,hx⟩,hd2,hd3⟩:=exF_dr (code:=code) (rank:=rank) hv 6 c kind k false hkk
 have hs6 : szE 6 ≤ 1093:=by decide
 have hke : kE 6 = 4371:=by decide
 refine (exp_ok 6 0 rfl (Int.le_refl _) X c sv kv kind k false (p.exIn hl hv hk hkk hk4) (by rw [hke]; exact hok)).mono ?_
 rintro e Y ⟨a,cap,rfl,ho,hc,ht⟩
 have hlc:=p.lc
 have hwX:=p.tr.size
 have hvY:=ht.blk hvb (by omega)
 have pY:=p.go hc ht
 have h1 : OwnV elStr X w.heap.size (.slice (some ⟨X0.heap.size,0,none⟩) 1 1) [s]:=by rw [hX]; exact str_box X0 s hw0
 obtain ⟨a',n',c',Z,r1,r2,r3,r4⟩:=pY.pushEq hs hx (by omega) (Nat.le_refl _) (h1.trk ht hlc) (ho.low hwX) hel
 exact ⟨a,_,cap,a',n',c',Z,rfl,pY.sbx.cell (i:=0) rfl,pY.sbx.cell (i:=1) rfl,hvY.cell (i:=0) rfl,hvY.cell (i:=1) rfl,pY.sbx.lt,hvY.lt,(uh r2).fou (hvY.kp (uh r4) (Or.inl (by decide))),r1,r2,r3⟩
end
set_option maxRecDepth 100000 in
def FrN (u : Nat → Value) : Act:=⟨#[u 0,u 1,u 2,u 3,u 4,u 5,u 6,u 7,u 8,u 9,u 10,u 11,u 12,u 13,u 14,u 15,u 16,u 17,u 18,u 19,u 20,u 21,u 22,u 23,u 24,u 25,u 26,u 27,u 28,u 29,u 30,u 31,u 32,u 33,u 34,u 35,u 36,u 37,u 38,u 39,u 40,u 41,u 42,u 43,u 44,u 45,u 46,u 47,u 48,u 49,u 50,u 51,u 52,u 53,u 54,u 55,u 56,u 57,u 58,u 59,u 60,u 61,u 62,u 63,u 64,u 65,u 66,u 67,u 68,u 69,u 70,u 71,u 72,u 73,u 74,u 75,u 76,u 77,u 78,u 79,u 80,u 81,u 82,u 83,u 84,u 85,u 86,u 87,u 88,u 89,u 90,u 91,u 92,u 93,u 94,u 95,u 96,u 97,u 98,u 99,u 100,u 101,u 102,u 103,u 104,u 105,u 106,u 107,u 108,u 109,u 110,u 111,u 112,u 113,u 114,u 115,u 116,u 117,u 118,u 119,u 120,u 121,u 122,u 123,u 124,u 125,u 126,u 127,u 128,u 129,u 130,u 131,u 132,u 133,u 134,u 135,u 136,u 137,u 138,u 139,u 140,u 141,u 142,u 143,u 144,u 145,u 146,u 147,u 148,u 149,u 150,u 151,u 152,u 153,u 154,u 155,u 156,u 157,u 158,u 159,u 160,u 161,u 162,u 163,u 164,u 165,u 166,u 167,u 168,u 169,u 170,u 171,u 172,u 173,u 174,u 175,u 176,u 177,u 178,u 179,u 180,u 181,u 182,u 183,u 184,u 185,u 186,u 187,u 188,u 189,u 190,u 191,u 192,u 193,u 194,u 195,u 196,u 197,u 198,u 199,u 200,u 201,u 202,u 203,u 204,u 205,u 206,u 207,u 208,u 209,u 210,u 211,u 212,u 213,u 214,u 215,u 216,u 217,u 218,u 219,u 220,u 221,u 222,u 223,u 224,u 225,u 226,u 227,u 228,u 229,u 230,u 231,u 232,u 233,u 234,u 235,u 236,u 237,u 238,u 239,u 240,u 241,u 242,u 243,u 244,u 245,u 246,u 247,u 248,u 249,u 250,u 251,u 252,u 253,u 254,u 255,u 256,u 257,u 258,u 259,u 260,u 261,u 262,u 263,u 264,u 265],[]⟩
set_option maxRecDepth 1000000 in
theorem frN_mk (x : Array Value) (hs : x.size = 266) : (⟨x,[]⟩ : Act) = FrN (fun i => x.getD i undef):=by
 have h:=arr_lit x
 rw [hs] at h
 generalize (fun i => x.getD i undef) = g at h ⊢
 rw [h]
 rfl
end Go.Proofs.YtajabbnlbopcbaaGreatDoor
