import Derived.Test.YtajabbnlbopcbaaGreatDoorPGG
import Derived.Test.YtajabbnlbopcbaaGreatDoorVNC
namespace Go.Proofs.YtajabbnlbopcbaaGreatDoor
open Go.RowKit
set_option linter.unusedSimpArgs false
set_option linter.unusedVariables false
theorem jn_end (s : ByteArray) : ∀ (xs : List (List Pc)),¬ xs = [] → jnP [fx s] xs ++ [fx s] = xs.flatMap (fun y => y ++ [fx s])
 | [],h => absurd rfl h
 | [x],_ => by simp [jnP]
 | x :: y :: r,_ => by
  rw [jnP,List.flatMap_cons,← jn_end s (y :: r) (by simp)]
  simp
def eqK' (e : PEq) : List Pc:=nmsK e.lhs ++ (fx Keq :: rhK e)
theorem eqK_eq (e : PEq) : eqK e = eqK' e ++ [fx Ksem]:=by simp [eqK,eqK']
def vsZ (vs : List DVar) : List (List Pc × DVar):=vs.map (fun v => (dlK v,v))
def esZ (es : List PEq) : List (List Pc × DEq):=es.map (fun e => (eqK' e,e.eq))
section
variable {ts : List TK} {W0 : World} {q : Nat} {tv iv iv' : Value} {W1 w : World} {L : List Pc} {xs : List DItem}
structure Nk (ts : List TK) (W0 : World) (q : Nat) (tv : Value) (w : World) (b1 : Nat) (X : World) (nm : ByteArray) (v1 v2 v3 v4 : Value) (x1 x2 x3 : List DVar) (x4 : List DEq) (m1 m2 m3 m4 : Nat) (L : List Pc) : Prop where
 pz : Pz ts W0 q tv X L
 tr : Tr q w X
 res : BlkAt X w.heap.size 43 #[.string ⟨#[]⟩,.slice none 0 0,.slice none 0 0,.slice none 0 0,.slice none 0 0]
 box : BlkAt X b1 43 #[.string nm,v1,v2,v3,v4]
 lq : q < w.heap.size
 lt : w.heap.size < b1
 f1 : Fin (fun w bs => RowT rVar TVar w v1 x1 bs) (b1 + 1) m1 X
 f2 : Fin (fun w bs => RowT rVar TVar w v2 x2 bs) m1 m2 X
 f3 : Fin (fun w bs => RowT rVar TVar w v3 x3 bs) m2 m3 X
 f4 : Fin (fun w bs => RowT rEq TEq w v4 x4 bs) m3 m4 X
 o1 : b1 + 1 ≤ m1
 o2 : m1 ≤ m2
 o3 : m2 ≤ m3
 o4 : m3 ≤ m4
 o5 : m4 ≤ X.heap.size
variable {b1 m1 m2 m3 m4 : Nat} {X : World} {nm : ByteArray} {v1 v2 v3 v4 : Value} {x1 x2 x3 : List DVar} {x4 : List DEq}
theorem fin_nilV (lo hi : Nat) (X : World) : Fin (fun w bs => RowT rVar TVar w (.slice none 0 0) [] bs) lo hi X:=⟨[],⟨[],[],OwnV.nil _ _,by simp,All3.nil,rfl⟩,List.nodup_nil,fun b hb => absurd hb (List.not_mem_nil)⟩
theorem fin_nilE (lo hi : Nat) (X : World) : Fin (fun w bs => RowT rEq TEq w (.slice none 0 0) [] bs) lo hi X:=⟨[],⟨[],[],OwnV.nil _ _,by simp,All3.nil,rfl⟩,List.nodup_nil,fun b hb => absurd hb (List.not_mem_nil)⟩
theorem Nk.keepF (h : Nk ts W0 q tv w b1 X nm v1 v2 v3 v4 x1 x2 x3 x4 m1 m2 m3 m4 L) {Y : World} (hk : ∀ b,b1 + 1 ≤ b → b < X.heap.size → Y.heap[b]? = X.heap[b]?) : Fin (fun w bs => RowT rVar TVar w v1 x1 bs) (b1 + 1) m1 Y ∧ Fin (fun w bs => RowT rVar TVar w v2 x2 bs) m1 m2 Y ∧ Fin (fun w bs => RowT rVar TVar w v3 x3 bs) m2 m3 Y ∧ Fin (fun w bs => RowT rEq TEq w v4 x4 bs) m3 m4 Y:=by
 have:=h.o1
 have:=h.o2
 have:=h.o3
 have:=h.o4
 have:=h.o5
 exact ⟨h.f1.keep (FrQ.t rVar TVar_fr v1 x1) (fun b g1 g2 => hk b (by omega) (by omega)),h.f2.keep (FrQ.t rVar TVar_fr v2 x2) (fun b g1 g2 => hk b (by omega) (by omega)),h.f3.keep (FrQ.t rVar TVar_fr v3 x3) (fun b g1 g2 => hk b (by omega) (by omega)),h.f4.keep (FrQ.t rEq TEq_fr v4 x4) (fun b g1 g2 => hk b (by omega) (by omega))⟩
theorem Nk.go (h : Nk ts W0 q tv w b1 X nm v1 v2 v3 v4 x1 x2 x3 x4 m1 m2 m3 m4 L) {Y : World} {L' : List Pc} (hp : Pz ts W0 q tv Y L') (ht : Tr q X Y) : Nk ts W0 q tv w b1 Y nm v1 v2 v3 v4 x1 x2 x3 x4 m1 m2 m3 m4 L':=by
 have hq:=h.lq
 have hl:=h.lt
 obtain ⟨g1,g2,g3,g4⟩:=h.keepF (Y:=Y) (fun b hb hlt => ht.block b hlt (by omega))
 exact ⟨hp,h.tr.trans ht,ht.blk h.res (by omega),ht.blk h.box (by omega),h.lq,h.lt,g1,g2,g3,g4,h.o1,h.o2,h.o3,h.o4,Nat.le_trans h.o5 ht.size⟩
theorem Nk.put1 (h : Nk ts W0 q tv w b1 X nm (.slice none 0 0) (.slice none 0 0) (.slice none 0 0) (.slice none 0 0) [] [] [] [] (b1 + 1) (b1 + 1) (b1 + 1) (b1 + 1) L) {Y : World} {L' : List Pc} {a : Option Addr} {n c : Nat} {xs : List DVar} (hl : xs.length ≤ 500) (hm : MkR rVar TVar X.heap.size Y (.slice a n c) xs) (hp : Pz ts W0 q tv Y L') (ht : Tr q X Y) : Nk ts W0 q tv w b1 (Y.setCell ⟨b1,1,none⟩ (.slice a n c)) nm (.slice a n c) (.slice none 0 0) (.slice none 0 0) (.slice none 0 0) xs [] [] [] Y.heap.size Y.heap.size Y.heap.size Y.heap.size L':=by
 have h2:=h.go hp ht
 have hq:=h.lq
 have hlt:=h.lt
 have o1:=h.o1
 have o2:=h.o2
 have o3:=h.o3
 have o4:=h.o4
 have o5:=h.o5
 have hz0:=ht.size
 have hT : Tr b1 Y (Y.setCell ⟨b1,1,none⟩ (.slice a n c)):=Tr.setCell _ _ _ _
 obtain ⟨k1,k2,k3,k4⟩:=h2.keepF (Y:=Y.setCell ⟨b1,1,none⟩ (.slice a n c)) (fun b hb hlt => hT.block b hlt (by omega))
 have hb9:=h2.box.lt
 have hbX:=h.box.lt
 have hz : Fin (fun w bs => RowT rVar TVar w (.slice a n c) xs bs) (b1 + 1) Y.heap.size (Y.setCell ⟨b1,1,none⟩ (.slice a n c)):=((hm.fin (Nat.le_trans (Nat.mul_le_mul_right _ hl) (show 500 * rVar.byt ≤ 140737488355328 by decide))).keep (FrQ.t rVar TVar_fr _ xs) (fun b g1 g2 => hT.block b g2 (by omega))).wide (by omega) (Nat.le_refl _)
 exact ⟨hp.box hT (by omega),h2.tr.new hT (by omega),hT.blk h2.res (by omega),h2.box.set 1 _,hq,hlt,hz,fin_nilV _ _ _,fin_nilV _ _ _,fin_nilE _ _ _,by omega,by omega,by omega,by omega,hT.size⟩
theorem Nk.put2 (h : Nk ts W0 q tv w b1 X nm v1 (.slice none 0 0) (.slice none 0 0) (.slice none 0 0) x1 [] [] [] m1 m1 m1 m1 L) {Y : World} {L' : List Pc} {a : Option Addr} {n c : Nat} {xs : List DVar} (hl : xs.length ≤ 500) (hm : MkR rVar TVar X.heap.size Y (.slice a n c) xs) (hp : Pz ts W0 q tv Y L') (ht : Tr q X Y) : Nk ts W0 q tv w b1 (Y.setCell ⟨b1,2,none⟩ (.slice a n c)) nm v1 (.slice a n c) (.slice none 0 0) (.slice none 0 0) x1 xs [] [] m1 Y.heap.size Y.heap.size Y.heap.size L':=by
 have h2:=h.go hp ht
 have hq:=h.lq
 have hlt:=h.lt
 have o1:=h.o1
 have o2:=h.o2
 have o3:=h.o3
 have o4:=h.o4
 have o5:=h.o5
 have hz0:=ht.size
 have hT : Tr b1 Y (Y.setCell ⟨b1,2,none⟩ (.slice a n c)):=Tr.setCell _ _ _ _
 obtain ⟨k1,k2,k3,k4⟩:=h2.keepF (Y:=Y.setCell ⟨b1,2,none⟩ (.slice a n c)) (fun b hb hlt => hT.block b hlt (by omega))
 have hb9:=h2.box.lt
 have hbX:=h.box.lt
 have hz : Fin (fun w bs => RowT rVar TVar w (.slice a n c) xs bs) m1 Y.heap.size (Y.setCell ⟨b1,2,none⟩ (.slice a n c)):=((hm.fin (Nat.le_trans (Nat.mul_le_mul_right _ hl) (show 500 * rVar.byt ≤ 140737488355328 by decide))).keep (FrQ.t rVar TVar_fr _ xs) (fun b g1 g2 => hT.block b g2 (by omega))).wide (by omega) (Nat.le_refl _)
 exact ⟨hp.box hT (by omega),h2.tr.new hT (by omega),hT.blk h2.res (by omega),h2.box.set 2 _,hq,hlt,k1,hz,fin_nilV _ _ _,fin_nilE _ _ _,by omega,by omega,by omega,by omega,hT.size⟩
theorem Nk.put3 (h : Nk ts W0 q tv w b1 X nm v1 v2 (.slice none 0 0) (.slice none 0 0) x1 x2 [] [] m1 m2 m2 m2 L) {Y : World} {L' : List Pc} {a : Option Addr} {n c : Nat} {xs : List DVar} (hl : xs.length ≤ 500) (hm : MkR rVar TVar X.heap.size Y (.slice a n c) xs) (hp : Pz ts W0 q tv Y L') (ht : Tr q X Y) : Nk ts W0 q tv w b1 (Y.setCell ⟨b1,3,none⟩ (.slice a n c)) nm v1 v2 (.slice a n c) (.slice none 0 0) x1 x2 xs [] m1 m2 Y.heap.size Y.heap.size L':=by
 have h2:=h.go hp ht
 have hq:=h.lq
 have hlt:=h.lt
 have o1:=h.o1
 have o2:=h.o2
 have o3:=h.o3
 have o4:=h.o4
 have o5:=h.o5
 have hz0:=ht.size
 have hT : Tr b1 Y (Y.setCell ⟨b1,3,none⟩ (.slice a n c)):=Tr.setCell _ _ _ _
 obtain ⟨k1,k2,k3,k4⟩:=h2.keepF (Y:=Y.setCell ⟨b1,3,none⟩ (.slice a n c)) (fun b hb hlt => hT.block b hlt (by omega))
 have hb9:=h2.box.lt
 have hbX:=h.box.lt
 have hz : Fin (fun w bs => RowT rVar TVar w (.slice a n c) xs bs) m2 Y.heap.size (Y.setCell ⟨b1,3,none⟩ (.slice a n c)):=((hm.fin (Nat.le_trans (Nat.mul_le_mul_right _ hl) (show 500 * rVar.byt ≤ 140737488355328 by decide))).keep (FrQ.t rVar TVar_fr _ xs) (fun b g1 g2 => hT.block b g2 (by omega))).wide (by omega) (Nat.le_refl _)
 exact ⟨hp.box hT (by omega),h2.tr.new hT (by omega),hT.blk h2.res (by omega),h2.box.set 3 _,hq,hlt,k1,k2,hz,fin_nilE _ _ _,by omega,by omega,by omega,by omega,hT.size⟩
theorem Nk.put4 (h : Nk ts W0 q tv w b1 X nm v1 v2 v3 (.slice none 0 0) x1 x2 x3 [] m1 m2 m3 m3 L) {Y : World} {L' : List Pc} {a : Option Addr} {n c : Nat} {xs : List DEq} (hl : xs.length ≤ 500) (hm : MkR rEq TEq X.heap.size Y (.slice a n c) xs) (hp : Pz ts W0 q tv Y L') (ht : Tr q X Y) : Nk ts W0 q tv w b1 (Y.setCell ⟨b1,4,none⟩ (.slice a n c)) nm v1 v2 v3 (.slice a n c) x1 x2 x3 xs m1 m2 m3 Y.heap.size L':=by
 have h2:=h.go hp ht
 have hq:=h.lq
 have hlt:=h.lt
 have o1:=h.o1
 have o2:=h.o2
 have o3:=h.o3
 have o4:=h.o4
 have o5:=h.o5
 have hz0:=ht.size
 have hT : Tr b1 Y (Y.setCell ⟨b1,4,none⟩ (.slice a n c)):=Tr.setCell _ _ _ _
 obtain ⟨k1,k2,k3,k4⟩:=h2.keepF (Y:=Y.setCell ⟨b1,4,none⟩ (.slice a n c)) (fun b hb hlt => hT.block b hlt (by omega))
 have hb9:=h2.box.lt
 have hbX:=h.box.lt
 have hz : Fin (fun w bs => RowT rEq TEq w (.slice a n c) xs bs) m3 Y.heap.size (Y.setCell ⟨b1,4,none⟩ (.slice a n c)):=((hm.fin (Nat.le_trans (Nat.mul_le_mul_right _ hl) (show 500 * rEq.byt ≤ 140737488355328 by decide))).keep (FrQ.t rEq TEq_fr _ xs) (fun b g1 g2 => hT.block b g2 (by omega))).wide (by omega) (Nat.le_refl _)
 exact ⟨hp.box hT (by omega),h2.tr.new hT (by omega),hT.blk h2.res (by omega),h2.box.set 4 _,hq,hlt,k1,k2,k3,hz,by omega,by omega,by omega,by omega,hT.size⟩
theorem BlkAt.set5 {w : World} {g : Nat} {e : TypeId} {a b c d f x y z u t : Value} (h : BlkAt w g e #[a,b,c,d,f]) : BlkAt (((((w.setCell ⟨g,0,none⟩ x).setCell ⟨g,1,none⟩ y).setCell ⟨g,2,none⟩ z).setCell ⟨g,3,none⟩ u).setCell ⟨g,4,none⟩ t) g e #[x,y,z,u,t]:=((((h.set 0 x).set 1 y).set 2 z).set 3 u).set 4 t
theorem Tr.set5 (b : Nat) (w : World) (x y z u t : Value) : Tr b w (((((w.setCell ⟨b,0,none⟩ x).setCell ⟨b,1,none⟩ y).setCell ⟨b,2,none⟩ z).setCell ⟨b,3,none⟩ u).setCell ⟨b,4,none⟩ t):=(Tr.set4 b w x y z u).trans (Tr.setCell b _ 4 t)
theorem Nk.fin {a1 a2 a3 a4 : Option Addr} {n1 n2 n3 n4 c1 c2 c3 c4 : Nat} (h : Nk ts W0 q tv w b1 X nm (.slice a1 n1 c1) (.slice a2 n2 c2) (.slice a3 n3 c3) (.slice a4 n4 c4) x1 x2 x3 x4 m1 m2 m3 m4 L) (hn : nm.size ≤ 40) :
  NPost ts W0 q tv w L ⟨nm,x1,x2,x3,x4⟩ (.returned (.agg #[.string nm,.slice a1 n1 c1,.slice a2 n2 c2,.slice a3 n3 c3,.slice a4 n4 c4])) (((((X.setCell ⟨w.heap.size,0,none⟩ (.string nm)).setCell ⟨w.heap.size,1,none⟩ (.slice a1 n1 c1)).setCell ⟨w.heap.size,2,none⟩ (.slice a2 n2 c2)).setCell ⟨w.heap.size,3,none⟩ (.slice a3 n3 c3)).setCell ⟨w.heap.size,4,none⟩ (.slice a4 n4 c4)):=by
 have hT:=Tr.set5 w.heap.size X (.string nm) (.slice a1 n1 c1) (.slice a2 n2 c2) (.slice a3 n3 c3) (.slice a4 n4 c4)
 have hlt:=h.lt
 have o1:=h.o1
 have o2:=h.o2
 have o3:=h.o3
 have o4:=h.o4
 have o5:=h.o5
 obtain ⟨⟨s1,k1,p1,r1⟩,⟨s2,k2,p2,r2⟩,⟨s3,k3,p3,r3⟩,⟨s4,k4,p4,r4⟩⟩:=h.keepF (fun b hb hlt => hT.block b hlt (by omega))
 have h12:=nd_app p1 p2 r1 r2 o1 o2
 have h13:=nd_app h12.1 p3 h12.2 r3 (by omega) o3
 have h14:=nd_app h13.1 p4 h13.2 r4 (by omega) o4
 refine ⟨a1,n1,c1,a2,n2,c2,a3,n3,c3,a4,n4,c4,rfl,⟨s1 ++ s2 ++ s3 ++ s4,⟨_,_,_,_,s1,s2,s3,s4,rfl,by unfold Len; simp only; omega,k1,k2,k3,k4,rfl⟩,h14.1,fun b hb => ?_⟩,h.pz.box hT h.lq,h.tr.new hT (Nat.le_refl _)⟩
 have h9:=h14.2 b hb
 have:=hT.size
 omega
end
end Go.Proofs.YtajabbnlbopcbaaGreatDoor
namespace Go.Proofs.YtajabbnlbopcbaaGreatDoor
open Go.RowKit
set_option linter.unusedSimpArgs false
set_option linter.unusedVariables false
theorem NdAns.kp {code : List Int} {W0 : World} {cb : Nat} {cv : Value} {w : World} {x : DNode × Cur} {e : Ending} {X Y : World} (h : NdAns code W0 cb cv w x e X) (q : KpH 43 w.heap.size X Y) (hc : cb < w.heap.size) : NdAns code W0 cb cv w x e Y:=by
 obtain ⟨a1,n1,c1,a2,n2,c2,a3,n3,c3,a4,n4,c4,bs,he,ht,hb,hcu,htr⟩:=h
 have hN : 43 ∉ tyN:=by decide
 have key : ∀ b,b ∈ bs → Y.heap[b]? = X.heap[b]?:=fun b hb9 => by
  obtain ⟨_,_,cur,U,h3,h4⟩:=hb b hb9
  exact q.oth b cur U h4 (fun e => hN (e ▸ h3))
 refine ⟨a1,n1,c1,a2,n2,c2,a3,n3,c3,a4,n4,c4,bs,he,TNode_fr _ _ _ _ _ ht key,fun b hb9 => ?_,hcu.kp q hc,htr.kp q (Nat.le_refl _)⟩
 obtain ⟨g1,g2,cur,U,h3,h4⟩:=hb b hb9
 exact ⟨g1,Nat.lt_of_lt_of_le g2 q.size,cur,U,h3,(key b hb9).trans h4⟩
set_option maxRecDepth 1000000 in
set_option maxHeartbeats 4000000 in
theorem fin_ok {code : List Int} {W0 : World} {cb : Nat} {cv : Value} {w : World} {rb nb sb : Nat} {X : World} {c : Cur} {nm : ByteArray} {sv vi vo vv qv ev : Value} {rank : Nat} {xs is os vs : List DVar} {qs es : List DEq} {hi : Nat} (p : Nz code W0 cb cv w rb nb sb X c nm sv vi vo vv qv ev rank xs is os vs qs es hi) (h1 : is.length ≤ 100) (h2 : os.length ≤ 100) (h3 : vs.length ≤ 100) (h4q : qs.length ≤ 100) (hnm : Len nm.size) {u : Nat → Value} (h4 : u 4 = .pointer (some ⟨rb,0,none⟩)) (h5 : u 5 = .pointer (some ⟨nb,0,none⟩)) :
  Code.wp Tryz.prog (rtC 12 (Tryz.f21.body.getD .skip)) (bodyPost Tryz.prog Tryz.f21 (NdAns code W0 cb cv w (⟨nm,is,os,vs,qs⟩,c))) (FrN u) X:=by
 have HA:=p.ans h1 h2 h3 h4q hnm
 obtain ⟨a1,c1,rfl⟩:=p.vz.i.slice
 obtain ⟨a2,c2,rfl⟩:=p.vz.o.slice
 obtain ⟨a3,c3,rfl⟩:=p.vz.v.slice
 obtain ⟨a4,c4,rfl⟩:=p.qz.q.slice
 have hr:=p.rbx.set5 (x:=.string nm) (y:=.slice a1 is.length c1) (z:=.slice a2 os.length c2) (u:=.slice a3 vs.length c3) (t:=.slice a4 qs.length c4)
 have HF:=hide (HA.kp (KpH.ofTr (Tr.set5 rb X (.string nm) (.slice a1 is.length c1) (.slice a2 os.length c2) (.slice a3 vs.length c3) (.slice a4 qs.length c4)) p.rbx p.rbl) p.lc)
 have n0:=p.nbx.cell (i:=0) (v:=.string nm) rfl
 have n1:=p.nbx.cell (i:=1) (v:=.slice a1 is.length c1) rfl
 have n2:=p.nbx.cell (i:=2) (v:=.slice a2 os.length c2) rfl
 have n3:=p.nbx.cell (i:=3) (v:=.slice a3 vs.length c3) rfl
 have n4:=p.nbx.cell (i:=4) (v:=.slice a4 qs.length c4) rfl
 have y0:=p.rbx.cell (i:=0) (v:=.string ⟨#[]⟩) rfl
 have y1:=p.rbx.cell (i:=1) (v:=.slice none 0 0) rfl
 have y2:=p.rbx.cell (i:=2) (v:=.slice none 0 0) rfl
 have y3:=p.rbx.cell (i:=3) (v:=.slice none 0 0) rfl
 have y4:=p.rbx.cell (i:=4) (v:=.slice none 0 0) rfl
 have g0:=p.rbx.free 0
 have g1:=p.rbx.free 1
 have g2:=p.rbx.free 2
 have g3:=p.rbx.free 3
 have g4:=p.rbx.free 4
 have lr:=p.rbx.lt
 have r0:=hr.cell (i:=0) (v:=.string nm) rfl
 have r1:=hr.cell (i:=1) (v:=.slice a1 is.length c1) rfl
 have r2:=hr.cell (i:=2) (v:=.slice a2 os.length c2) rfl
 have r3:=hr.cell (i:=3) (v:=.slice a3 vs.length c3) rfl
 have r4:=hr.cell (i:=4) (v:=.slice a4 qs.length c4) rfl
 obtain ⟨PO,hPO⟩ : ∃ PO : Ending → World → Prop,PO = NdAns code W0 cb cv w (⟨nm,is,os,vs,qs⟩,c):=⟨_,rfl⟩
 rw [← hPO] at HF ⊢
 clear p HA hr hPO h1 h2 h3 h4q hnm
 unfold FrN
 rw [h4,h5]
 clear h4 h5
 conv => arg 2; whnf
 go_wp2
 refine bodyPost_ret ?_ rfl (uh HF)
 simp [results,Tryz.results21,go_sem,r0,r1,r2,r3,r4]
set_option maxRecDepth 1000000 in
set_option maxHeartbeats 4000000 in
theorem seg9 {code : List Int} {W0 : World} {cb : Nat} {cv : Value} {w : World} {rb nb sb : Nat} {X : World} {c : Cur} {nm : ByteArray} {sv vi vo vv qv ev : Value} {rank : Nat} {xs is os vs : List DVar} {qs es : List DEq} {hi : Nat} (p : Nz code W0 cb cv w rb nb sb X c nm sv vi (.slice none 0 0) vv (.slice none 0 0) ev rank xs is [] vs [] es hi) (hS : SI 13 ⟨xs,vs,es,c⟩) (h1 : is.length ≤ 100) (hnm : Len nm.size) (hok : okB 9000 c) {u : Nat → Value} (h0 : u 0 = .pointer (some ⟨cb,0,none⟩)) (h4 : u 4 = .pointer (some ⟨rb,0,none⟩)) (h5 : u 5 = .pointer (some ⟨nb,0,none⟩)) (h8 : u 8 = .pointer (some ⟨sb,0,none⟩)) (h9 : u 9 = ev) :
  Code.wp Tryz.prog (rtC 9 (Tryz.f21.body.getD .skip)) (bodyPost Tryz.prog Tryz.f21 (NdAns code W0 cb cv w (⟨nm,is,(nodT code ⟨xs,vs,es,c⟩).vs,vs,(nodQ code (nodT code ⟨xs,vs,es,c⟩)).1⟩,(nodQ code (nodT code ⟨xs,vs,es,c⟩)).2))) (FrN u) X:=by
 have HP:=hide (pick_ok p.cu 2 (by omega) (hok.less (by omega)))
 have hp2:=pkF_lt code (m:=2) c (by omega)
 have HIT : Hid (∀ n,n ≤ 2 → SI 15 (itF (ouF code) n ⟨xs,[],es,(pkF code 2 c).2⟩) ∧ ∀ j,okB (j + 8744) (pkF code 2 c).2 → okB j (itF (ouF code) n ⟨xs,[],es,(pkF code 2 c).2⟩).c):=hide (fun n hn => by
  obtain ⟨t1,t2⟩:=nodT_at (code:=code) hS n hn
  exact ⟨t1.wide (by omega),fun j hj => t2 j (hj.less (by omega))⟩)
 have HIK : Hid (∀ n,n < 2 → okB 4372 (itF (ouF code) n ⟨xs,[],es,(pkF code 2 c).2⟩).c):=hide (fun n hn => by
  obtain ⟨t1,t2⟩:=nodT_at (code:=code) hS n (by omega)
  exact t2 _ ((pkF_ok (m:=2) (n:=8990) (hok.less (by omega))).less (by omega)))
 have HOK : Hid (okB 8990 (pkF code 2 c).2):=pkF_ok (hok.less (by omega))
 have HNT : Hid ((nodT code ⟨xs,vs,es,c⟩) = itF (ouF code) (1 + (pkF code 2 c).1) ⟨xs,[],es,(pkF code 2 c).2⟩):=hide rfl
 have HNE : Hid ((nodT code ⟨xs,vs,es,c⟩).eqs.length = es.length + (1 + (pkF code 2 c).1)):=hide (one_eqs _)
 generalize (nodT code ⟨xs,vs,es,c⟩) = T9 at *
 generalize pkF code 2 c = Q at *
 obtain ⟨p2,c1⟩:=Q
 replace HP : Hid (Calls Tryz.prog 9 #[.pointer (some ⟨cb,0,none⟩),.int .i64 2] X (CuAns code W0 cb cv X (.int .i64 p2) c1)):=HP
 replace hp2 : p2 < 2:=hp2
 have hw1 : IntKind.i64.wrap (1 + (p2 : Int)) = 1 + (p2 : Int):=by rw [IntKind.wrap_i64]; omega
 have HN:=hide p
 have HU:=hide h4
 obtain ⟨PO,hPO⟩ : ∃ PO : Ending → World → Prop,PO = NdAns code W0 cb cv w (⟨nm,is,T9.vs,vs,(nodQ code T9).1⟩,(nodQ code T9).2):=⟨_,rfl⟩
 rw [← hPO]
 have HPO:=hide hPO
 have HSI:=hide hS
 clear p hok hPO hS h4
 unfold FrN
 rw [h0,h5,h8,h9]
 clear h0 h5 h8 h9
 conv => arg 2; whnf
 go_wp2_with fail
 refine (uh HP).mono ?_
 rintro e X1 ⟨rfl,hc1,ht1⟩
 have p1:=(uh HN).go hc1 ht1
 clear hc1 ht1 HN HP
 go_wp2_with fail
 rename_i K1 H1
 have H11:=hide H1
 clear H1
 rw [frN_mk _ rfl]
 have hnI : (1 + (p2 : Int)) = ((1 + p2 : Nat) : Int):=by omega
 refine out_loop (qv:=.slice none 0 0) (qs:=[]) (n:=1 + p2) p1 (by omega) (fun g hg => ((uh HIT) g (by omega)).1.wide (by omega)) (fun g hg => uh HIK g (by omega)) rfl rfl rfl rfl (congrArg (Value.int .i64) hnI) rfl ?_
 intro x Z sv9 vo9 ev9 rk9 hi9 hsz ⟨k0,k4,k5,k9⟩ hst
 refine uh H11 _ _ ?_
 have hN:=uh hst
 obtain ⟨i1,i2⟩:=uh HIT (1 + p2) (by omega)
 have e9 : itF (ouF code) (1 + p2) ⟨xs,[],es,c1⟩ = T9:=(uh HNT).symm
 rw [e9] at hN i1 i2
 have hle : T9.eqs.length ≤ 15:=i1.el
 have hov : T9.vs.length ≤ 15:=i1.vl
 have shp : rtC 11 (Tryz.f21.body.getD .skip) = .seq (.block 10 (.loop (inC (inC (lfC (rtC 11 (Tryz.f21.body.getD .skip))))))) (rtC 12 (Tryz.f21.body.getD .skip)):=rfl
 show Code.wp Tryz.prog (rtC 11 (Tryz.f21.body.getD .skip)) _ _ _
 rw [shp]
 refine wp_seq_k (fun K2 H2 => wp_block ?_)
 rw [frN_mk x hsz]
 refine perm_loop hN (by simp; omega) (i2 _ ((uh HOK).less (by omega))) k0 k5 k9 ?_
 intro y W qv9 ev2 hi2 hy j4 j5 hn
 refine H2 _ _ ?_
 rw [frN_mk y hy,uh HPO]
 have hq : (nodQ code T9).1.length = 0 + T9.eqs.length:=(pmF_ok (code:=code) T9.eqs.length T9.eqs [] T9.c rfl i1.ek (fun v hv => absurd hv (List.not_mem_nil))).2.1
 have hvl:=(uh HSI).vl
 exact fin_ok hn h1 (by omega) (by simp only at hvl; omega) (by show (nodQ code T9).1.length ≤ 100; omega) hnm (j4.trans (k4.trans (uh HU))) j5
structure Iz (code : List Int) (W0 : World) (cb : Nat) (cv : Value) (w : World) (rb nb : Nat) (X : World) (c : Cur) (nm : ByteArray) (vi : Value) (is : List DVar) : Prop where
 cu : CuAt code W0 cb cv X c
 tr : Tr cb w X
 lc : cb < w.heap.size
 rbl : w.heap.size ≤ rb
 nbl : w.heap.size ≤ nb
 rn : rb ≠ nb
 rbx : BlkAt X rb 43 #[.string ⟨#[]⟩,.slice none 0 0,.slice none 0 0,.slice none 0 0,.slice none 0 0]
 nbx : BlkAt X nb 43 #[.string nm,vi,.slice none 0 0,.slice none 0 0,.slice none 0 0]
 ri : Rk rVar TVar w.heap.size 0 X vi is
theorem dj_nil (v : Value) : Dj v (.slice none 0 0):=fun x _ h => by simp [Value.ownBlock] at h
theorem Iz.start {code : List Int} {W0 : World} {cb : Nat} {cv : Value} {w : World} {rb nb : Nat} {X : World} {c : Cur} {nm : ByteArray} {vi : Value} {is : List DVar} (p : Iz code W0 cb cv w rb nb X c nm vi is) (hl : is.length ≤ 100) :
  ∃ g cap Z,Hid ((Builtin.append_ #[40,40] 40 #[.slice (some ⟨X.heap.size,0,none⟩) 0 0,vi]).run Tryz.prog (X.alloc (.cells #[] 67)) = .ok (.slice (some ⟨g,0,none⟩) is.length cap) Z) ∧ Hid (∃ hi,Nz code W0 cb cv w rb nb Z.heap.size ((Z.alloc (.cells #[.slice (some ⟨g,0,none⟩) is.length cap,.int .i64 0] 91)).alloc (.cells #[] 58)) c nm (.slice (some ⟨g,0,none⟩) is.length cap) vi (.slice none 0 0) (.slice none 0 0) (.slice none 0 0) (.slice (some ⟨Z.heap.size + 1,0,none⟩) 0 0) 0 is is [] [] [] [] hi):=by
 have hwX:=p.tr.size
 have hA : Below X.heap.size X (X.alloc (.cells #[] 67)):=(Below.refl _ _).alloc (Nat.le_refl _) _
 have hri:=p.ri
 obtain ⟨css,subs,h1,h2,h3⟩:=p.ri
 have hcl:=h2.len
 have hsl : SlAt 3 48 RRaw 0 (X.alloc (.cells #[] 67)) vi css:=(h1.below hA).at (fun _ _ => rfl) (show css.length * 48 ≤ _ by omega)
 obtain ⟨g,cap,Z,hr,ho,hg⟩:=run_append_all rVar (R:=RRaw) (fun _ _ _ h => h) (X.alloc (.cells #[] 67)) 40 X.heap.size X.heap.size 0 [] (OwnV.start (E:=rVar) X X.heap.size (Nat.le_refl _)) vi css hsl (show (0 + css.length) * 48 ≤ _ by omega) hA.size
 rw [List.length_nil,Nat.zero_add,hcl.1] at hr ho
 rw [List.nil_append] at ho
 have k1 : KpH 67 X.heap.size X Z:=(KpH.below _ _ hA).trans (KpH.own (E:=rVar) (OwnV.start (E:=rVar) X X.heap.size (Nat.le_refl _)) hg)
 have hvb:=hri.blk
 have hriZ:=hri.kp TVar_fr k1 (Or.inl (by decide)) (Or.inr (fun b hb => (hvb b hb).2.1))
 obtain ⟨Y,hY⟩ : ∃ Y,Y = (Z.alloc (.cells #[.slice (some ⟨g,0,none⟩) is.length cap,.int .i64 0] 91)).alloc (.cells #[] 58):=⟨_,rfl⟩
 have hb1 : Below Z.heap.size Z (Z.alloc (.cells #[.slice (some ⟨g,0,none⟩) is.length cap,.int .i64 0] 91)):=(Below.refl _ _).alloc (Nat.le_refl _) _
 have hbY : Below Z.heap.size Z Y:=hY ▸ hb1.alloc hb1.size _
 have hsb : BlkAt Y Z.heap.size 91 #[.slice (some ⟨g,0,none⟩) is.length cap,.int .i64 0]:=hY ▸ (blk_box Z _ _).below ((Below.refl _ _).alloc (Nat.le_refl _) _) (by simp)
 have hev : OwnV rEq Y w.heap.size (.slice (some ⟨Z.heap.size + 1,0,none⟩) 0 0) []:=by
  have h9:=OwnV.start (E:=rEq) (Z.alloc (.cells #[.slice (some ⟨g,0,none⟩) is.length cap,.int .i64 0] 91)) w.heap.size (Nat.le_trans (Nat.le_trans hwX k1.size) hb1.size)
  have hz9 : (Z.alloc (.cells #[.slice (some ⟨g,0,none⟩) is.length cap,.int .i64 0] 91)).heap.size = Z.heap.size + 1:=by simp
  rw [hz9] at h9
  rw [hY]
  exact h9
 have hYs : Y.heap.size = Z.heap.size + 2:=by rw [hY]; simp
 have kY:=KpH.below 1000000 Z.heap.size hbY
 have hz:=k1.size
 have hoY : OwnV rVar Y w.heap.size (.slice (some ⟨g,0,none⟩) is.length cap) css:=(ho.low hwX).below hbY
 have hs9 : All3 (fun c x s => TVar Y c.1 x s) css is subs:=h2.mono (fun c x s _ _ hs h9 => TVar_fr _ _ _ _ _ (TVar_fr _ _ _ _ _ h9 (fun b hb => ((h3 b (List.mem_flatten.2 ⟨s,hs,hb⟩)).kp k1 (Or.inl (by decide))).1)) (fun b hb => ((((h3 b (List.mem_flatten.2 ⟨s,hs,hb⟩)).kp k1 (Or.inl (by decide))).2).kp kY (Or.inr (Nat.zero_le _))).1))
 have hnil : ∀ h,Rk rVar TVar w.heap.size h Y (.slice none 0 0) []:=fun h => Rk.nil _ _ _ _ _
 refine ⟨g,cap,Z,hr,Y.heap.size,?_⟩
 rw [← hY]
 have hgz : X.heap.size ≤ g:=ho.block g rfl
 exact ⟨(p.cu.kp k1 (by have:=p.lc; omega)).below hbY,(p.tr.kp k1 hwX).trans (Tr.of_below hbY),p.lc,p.rbl,p.nbl,by omega,p.rn,(p.rbx.kp k1 (Or.inl (by decide))).below hbY (by have:=p.rbx.lt; omega),(p.nbx.kp k1 (Or.inl (by decide))).below hbY (by have:=p.nbx.lt; omega),hsb,⟨⟨css,subs,hoY,hs9,fun b hb => absurd (h3 b hb).2.1 (Nat.not_lt_zero _)⟩,(hriZ.kp TVar_fr kY (Or.inr (Nat.zero_le _)) (Or.inr (fun b hb => (hriZ.blk b hb).2.1))).up (Nat.zero_le _),hnil _,hnil _,fun b h1 h2 => by have e : g = b:=(by simpa [Value.ownBlock] using h1); have:=(hvb b h2).2.1; omega,dj_nil _,dj_nil _,dj_nil _,dj_nil _,dj_nil _⟩,⟨⟨[],[],hev,.nil,fun b hb => absurd hb (List.not_mem_nil)⟩,Rk.nil _ _ _ _ _,dj_nil _,fun b hb => by have e : Z.heap.size + 1 = b:=(by simpa [Value.ownBlock] using hb); omega,fun b hb => by simp [Value.ownBlock] at hb⟩,Nat.le_refl _⟩
set_option maxRecDepth 1000000 in
set_option maxHeartbeats 4000000 in
theorem seg5 {code : List Int} {W0 : World} {cb : Nat} {cv : Value} {w : World} {rb nb : Nat} {X : World} {c : Cur} {nm : ByteArray} {vi : Value} {is : List DVar} (p : Iz code W0 cb cv w rb nb X c nm vi is) (hi : ∀ v ∈ is,okP v) (hil : is.length ≤ 3) (hnm : Len nm.size)
  {before : List DNode} {ba : Option Addr} {bc : Nat} (hbf : SlAt 5 112 RNode (cb + 1) w (.slice ba before.length bc) before) (hbn : before.length ≤ 3) (hbo : ∀ n,n ∈ before → okDN n) (hok : okB 39000 c) {u : Nat → Value} (h0 : u 0 = .pointer (some ⟨cb,0,none⟩)) (h1 : u 1 = .slice ba before.length bc) (h4 : u 4 = .pointer (some ⟨rb,0,none⟩)) (h5 : u 5 = .pointer (some ⟨nb,0,none⟩)) :
  Code.wp Tryz.prog (rtC 5 (Tryz.f21.body.getD .skip)) (bodyPost Tryz.prog Tryz.f21 (NdAns code W0 cb cv w (⟨nm,is,(nodT code (nodS code before (is,c))).vs,(nodS code before (is,c)).vs,(nodQ code (nodT code (nodS code before (is,c)))).1⟩,(nodQ code (nodT code (nodS code before (is,c)))).2))) (FrN u) X:=by
 obtain ⟨ia,ic,rfl⟩:=p.ri.slice
 obtain ⟨g,cap,Z,HR,HN⟩:=p.start (by omega)
 obtain ⟨Y,hY⟩ : ∃ Y,Y = (Z.alloc (.cells #[.slice (some ⟨g,0,none⟩) is.length cap,.int .i64 0] 91)).alloc (.cells #[] 58):=⟨_,rfl⟩
 rw [← hY] at HN
 have HY:=hide hY
 obtain ⟨hi9,hN⟩:=uh HN
 have HN9:=hide hN
 have HP:=hide (pick_ok hN.cu 5 (by omega) (hok.less (by omega)))
 have hp5:=pkF_lt code (m:=5) c (by omega)
 have HIT : Hid (∀ n,n ≤ 5 → SI 13 (itF (fun _ => grF code before) n ⟨is,[],[],(pkF code 5 c).2⟩) ∧ (∀ j,okB (j + 21880) (pkF code 5 c).2 → okB j (itF (fun _ => grF code before) n ⟨is,[],[],(pkF code 5 c).2⟩).c) ∧ (n < 5 → okB 4376 (itF (fun _ => grF code before) n ⟨is,[],[],(pkF code 5 c).2⟩).c)):=hide (fun n hn => by
  obtain ⟨t1,t2⟩:=nodS_at (code:=code) (i:=(is,c)) hi hil hbo n hn
  exact ⟨t1.wide (by omega),fun j hj => t2 j (hj.less (by omega)),fun _ => t2 _ ((pkF_ok (m:=5) (n:=38000) (hok.less (by omega))).less (by omega))⟩)
 have HOK : Hid (okB 38000 (pkF code 5 c).2):=pkF_ok (hok.less (by omega))
 have HNS : Hid ((nodS code before (is,c)) = itF (fun _ => grF code before) (1 + (pkF code 5 c).1) ⟨is,[],[],(pkF code 5 c).2⟩):=hide rfl
 generalize (nodS code before (is,c)) = S9 at *
 generalize pkF code 5 c = Q at *
 obtain ⟨p5,c1⟩:=Q
 replace HP : Hid (Calls Tryz.prog 9 #[.pointer (some ⟨cb,0,none⟩),.int .i64 5] Y (CuAns code W0 cb cv Y (.int .i64 p5) c1)):=HP
 replace hp5 : p5 < 5:=hp5
 have hw1 : IntKind.i64.wrap (1 + (p5 : Int)) = 1 + (p5 : Int):=by rw [IntKind.wrap_i64]; omega
 have n1:=p.nbx.cell (i:=1) (v:=.slice ia is.length ic) rfl
 have n2:=p.nbx.lt
 have HU:=hide h4
 obtain ⟨PO,hPO⟩ : ∃ PO : Ending → World → Prop,PO = NdAns code W0 cb cv w (⟨nm,is,(nodT code S9).vs,S9.vs,(nodQ code (nodT code S9)).1⟩,(nodQ code (nodT code S9)).2):=⟨_,rfl⟩
 rw [← hPO]
 have HPO:=hide hPO
 clear p hok hPO hY hN HN h4
 unfold FrN
 rw [h0,h1,h5]
 clear h0 h1 h5
 conv => arg 2; whnf
 have n3 : nb ≠ X.heap.size:=by omega
 go_wp2_with (at_builtin; go_must (refine wpList_append_run rfl _ _ 40 40 rfl rfl _ _ _ rfl rfl (uh HR) ?_))
 rw [← uh HY]
 refine (uh HP).mono ?_
 rintro e X1 ⟨rfl,hc1,ht1⟩
 have p1:=(uh HN9).go hc1 ht1
 clear hc1 ht1 HN9 HP HR n1 n2 n3
 go_wp2_with fail
 rename_i K1 H1
 have H11:=hide H1
 clear H1
 rw [frN_mk _ rfl]
 have hnI : (1 + (p5 : Int)) = ((1 + p5 : Nat) : Int):=by omega
 refine grp_loop (qv:=.slice none 0 0) (qs:=[]) (n:=1 + p5) p1 hbf hbn hbo (by omega) (fun g hg => ((uh HIT) g (by omega)).1.wide (by omega)) (fun g hg => ((uh HIT) g (by omega)).2.2 (by omega)) rfl rfl rfl rfl rfl (congrArg (Value.int .i64) hnI) rfl ?_
 intro x W sv9 vv9 ev9 rk9 hi2 hsz ⟨k0,k4,k5,k8,k9⟩ hst
 refine uh H11 _ _ ?_
 have hN:=uh hst
 obtain ⟨i1,i2,_⟩:=uh HIT (1 + p5) (by omega)
 have e9 : itF (fun _ => grF code before) (1 + p5) ⟨is,[],[],c1⟩ = S9:=(uh HNS).symm
 rw [e9] at hN i1 i2
 show Code.wp Tryz.prog (rtC 9 (Tryz.f21.body.getD .skip)) _ _ _
 rw [frN_mk x hsz,uh HPO]
 exact seg9 (qv:=.slice none 0 0) (qs:=[]) (vo:=.slice none 0 0) (os:=[]) hN i1 (by omega) hnm (i2 _ ((uh HOK).less (by omega))) k0 (k4.trans (uh HU)) k5 k8 k9
end Go.Proofs.YtajabbnlbopcbaaGreatDoor
