import Derived.Test.YtajabbnlbopcbaaGreatDoorV6
namespace Go.Proofs.YtajabbnlbopcbaaGreatDoor
open Go.RowKit
set_option linter.unusedSimpArgs false
set_option linter.unusedVariables false
section
variable {ts : List TK} {W0 : World} {q : Nat} {tv iv iv' : Value} {W1 w : World} {L : List Pc} {xs : List DItem}
theorem MkR.blk {α : Type} {sz : Nat} {E : ElF Tryz.prog (Raw sz)} {R : World → List Value → α → List Nat → Prop} {B : Nat} {w : World} {v : Value} {xs : List α} (h : MkR E R B w v xs) : ∀ b,v.ownBlock = some b → B ≤ b:=fun b hb => by
 obtain ⟨css,subs,h1,_⟩:=h
 exact h1.block b hb
theorem firstVar {F : FuncId} {args : Array Value} {X : World} {x : DVar} (ht : Tr q w X) (hc : Calls Tryz.prog F args X (VPost ts W0 q tv X L x)) :
  Calls Tryz.prog F args X (fun e Y => ∃ a n c,e = .returned (.agg #[.string x.name,.int .i64 x.type,.slice a n c]) ∧ Hid (MkR rVar TVar w.heap.size (Y.alloc (.cells #[.string x.name,.int .i64 x.type,.slice a n c] 67)) (.slice (some ⟨Y.heap.size,0,none⟩) 1 1) [x] ∧ Pz ts W0 q tv (Y.alloc (.cells #[.string x.name,.int .i64 x.type,.slice a n c] 67)) L ∧ Tr q w (Y.alloc (.cells #[.string x.name,.int .i64 x.type,.slice a n c] 67)))):=by
 refine hc.mono ?_
 rintro e Y ⟨a,n,c,rfl,hF,hp,hT⟩
 have hA : Below Y.heap.size Y (Y.alloc (.cells #[.string x.name,.int .i64 x.type,.slice a n c] 67)):=(Below.refl _ _).alloc (Nat.le_refl _) _
 have hz:=(ht.trans hT).size
 refine ⟨_,_,_,rfl,hide ⟨?_,hp.below hA,(ht.trans hT).trans (Tr.of_below hA)⟩⟩
 exact MkR.one TVar_fr (rawVar x.name x.type a n c) (hF.wide ht.size (Nat.le_refl _)) hz rfl
theorem pushVar {F : FuncId} {args : Array Value} {X : World} {x : DVar} {xs : List (DVar)} {oa : Option Addr} {n9 oc : Nat} (hm : MkR rVar TVar w.heap.size X (.slice oa n9 oc) xs) (hl : xs.length ≤ 100000) (hq : q < w.heap.size) (ht : Tr q w X) (hc : Calls Tryz.prog F args X (VPost ts W0 q tv X L x)) :
  Calls Tryz.prog F args X (fun e Y => ∃ a n c va vn vc w5,e = .returned (.agg #[.string x.name,.int .i64 x.type,.slice a n c]) ∧ Hid ((Builtin.append_ #[40,40] 40 #[.slice oa n9 oc,.slice (some ⟨Y.heap.size,0,none⟩) 1 1]).run Tryz.prog (Y.alloc (.cells #[.string x.name,.int .i64 x.type,.slice a n c] 67)) = .ok (.slice va vn vc) w5) ∧ Hid (MkR rVar TVar w.heap.size w5 (.slice va vn vc) (xs ++ [x]) ∧ Pz ts W0 q tv w5 L ∧ Tr q w w5)):=by
 refine hc.mono ?_
 rintro e Y ⟨a,n,c,rfl,hF,hp,hT⟩
 have hA : Below Y.heap.size Y (Y.alloc (.cells #[.string x.name,.int .i64 x.type,.slice a n c] 67)):=(Below.refl _ _).alloc (Nat.le_refl _) _
 obtain ⟨v',w5,hrun,hrow,hg5,hk5⟩:=hm.snoc TVar_fr hT.size (fun b hb hlt => hT.block b hlt (by omega)) hA (c:=rawVar x.name x.type a n c) hF ht.size rfl (blk_box Y _ _) (Nat.le_trans (Nat.mul_le_mul_right _ (show xs.length + 1 ≤ 100001 by omega)) (show 100001 * rVar.byt ≤ 140737488355328 by decide)) 40
 obtain ⟨va,vc,rfl⟩:=hrow.slice
 exact ⟨_,_,_,va,_,vc,w5,rfl,hide hrun,hide ⟨hrow,(hp.below hA).grown hg5 (fun b hb => hm.blk b hb) hq,((ht.trans hT).trans (Tr.of_below hA)).grown hg5 (fun b hb => hm.blk b hb)⟩⟩
theorem firstIts {F : FuncId} {args : Array Value} {X : World} {x : List DItem} (ht : Tr q w X) (hc : Calls Tryz.prog F args X (IPost ts W0 q tv X L x)) :
  Calls Tryz.prog F args X (fun e Y => ∃ a n c,e = .returned (.slice a n c) ∧ Hid (MkR rItems TItems w.heap.size (Y.alloc (.cells #[.slice a n c] 55)) (.slice (some ⟨Y.heap.size,0,none⟩) 1 1) [x] ∧ Pz ts W0 q tv (Y.alloc (.cells #[.slice a n c] 55)) L ∧ Tr q w (Y.alloc (.cells #[.slice a n c] 55)))):=by
 refine hc.mono ?_
 rintro e Y ⟨a,n,c,rfl,hF,hp,hT⟩
 have hA : Below Y.heap.size Y (Y.alloc (.cells #[.slice a n c] 55)):=(Below.refl _ _).alloc (Nat.le_refl _) _
 have hz:=(ht.trans hT).size
 refine ⟨_,_,_,rfl,hide ⟨?_,hp.below hA,(ht.trans hT).trans (Tr.of_below hA)⟩⟩
 exact MkR.one TItems_fr (rawIts a n c) (hF.wide ht.size (Nat.le_refl _)) hz rfl
theorem pushIts {F : FuncId} {args : Array Value} {X : World} {x : List DItem} {xs : List (List DItem)} {oa : Option Addr} {n9 oc : Nat} (hm : MkR rItems TItems w.heap.size X (.slice oa n9 oc) xs) (hl : xs.length ≤ 100000) (hq : q < w.heap.size) (ht : Tr q w X) (hc : Calls Tryz.prog F args X (IPost ts W0 q tv X L x)) :
  Calls Tryz.prog F args X (fun e Y => ∃ a n c va vn vc w5,e = .returned (.slice a n c) ∧ Hid ((Builtin.append_ #[56,56] 56 #[.slice oa n9 oc,.slice (some ⟨Y.heap.size,0,none⟩) 1 1]).run Tryz.prog (Y.alloc (.cells #[.slice a n c] 55)) = .ok (.slice va vn vc) w5) ∧ Hid (MkR rItems TItems w.heap.size w5 (.slice va vn vc) (xs ++ [x]) ∧ Pz ts W0 q tv w5 L ∧ Tr q w w5)):=by
 refine hc.mono ?_
 rintro e Y ⟨a,n,c,rfl,hF,hp,hT⟩
 have hA : Below Y.heap.size Y (Y.alloc (.cells #[.slice a n c] 55)):=(Below.refl _ _).alloc (Nat.le_refl _) _
 obtain ⟨v',w5,hrun,hrow,hg5,hk5⟩:=hm.snoc TItems_fr hT.size (fun b hb hlt => hT.block b hlt (by omega)) hA (c:=rawIts a n c) hF ht.size rfl (blk_box Y _ _) (Nat.le_trans (Nat.mul_le_mul_right _ (show xs.length + 1 ≤ 100001 by omega)) (show 100001 * rItems.byt ≤ 140737488355328 by decide)) 56
 obtain ⟨va,vc,rfl⟩:=hrow.slice
 exact ⟨_,_,_,va,_,vc,w5,rfl,hide hrun,hide ⟨hrow,(hp.below hA).grown hg5 (fun b hb => hm.blk b hb) hq,((ht.trans hT).trans (Tr.of_below hA)).grown hg5 (fun b hb => hm.blk b hb)⟩⟩
theorem pushEq {F : FuncId} {args : Array Value} {X : World} {x : DEq} {xs : List (DEq)} {oa : Option Addr} {n9 oc : Nat} (hm : MkR rEq TEq w.heap.size X (.slice oa n9 oc) xs) (hl : xs.length ≤ 100000) (hq : q < w.heap.size) (ht : Tr q w X) (hc : Calls Tryz.prog F args X (EPost ts W0 q tv X L x)) :
  Calls Tryz.prog F args X (fun e Y => ∃ a1 n1 c1 a2 n2 c2 a3 n3 c3 va vn vc w5,e = .returned (.agg #[.slice a1 n1 c1,.slice a2 n2 c2,.string x.call,.slice a3 n3 c3]) ∧ Hid ((Builtin.append_ #[41,41] 41 #[.slice oa n9 oc,.slice (some ⟨Y.heap.size,0,none⟩) 1 1]).run Tryz.prog (Y.alloc (.cells #[.slice a1 n1 c1,.slice a2 n2 c2,.string x.call,.slice a3 n3 c3] 58)) = .ok (.slice va vn vc) w5) ∧ Hid (MkR rEq TEq w.heap.size w5 (.slice va vn vc) (xs ++ [x]) ∧ Pz ts W0 q tv w5 L ∧ Tr q w w5)):=by
 refine hc.mono ?_
 rintro e Y ⟨a1,n1,c1,a2,n2,c2,a3,n3,c3,rfl,hF,hp,hT⟩
 have hA : Below Y.heap.size Y (Y.alloc (.cells #[.slice a1 n1 c1,.slice a2 n2 c2,.string x.call,.slice a3 n3 c3] 58)):=(Below.refl _ _).alloc (Nat.le_refl _) _
 obtain ⟨v',w5,hrun,hrow,hg5,hk5⟩:=hm.snoc TEq_fr hT.size (fun b hb hlt => hT.block b hlt (by omega)) hA (c:=rawEq a1 n1 c1 a2 n2 c2 x.call a3 n3 c3) hF ht.size rfl (blk_box Y _ _) (Nat.le_trans (Nat.mul_le_mul_right _ (show xs.length + 1 ≤ 100001 by omega)) (show 100001 * rEq.byt ≤ 140737488355328 by decide)) 41
 obtain ⟨va,vc,rfl⟩:=hrow.slice
 exact ⟨_,_,_,_,_,_,_,_,_,va,_,vc,w5,rfl,hide hrun,hide ⟨hrow,(hp.below hA).grown hg5 (fun b hb => hm.blk b hb) hq,((ht.trans hT).trans (Tr.of_below hA)).grown hg5 (fun b hb => hm.blk b hb)⟩⟩
theorem firstNd {F : FuncId} {args : Array Value} {X : World} {x : DNode} (ht : Tr q w X) (hc : Calls Tryz.prog F args X (NPost ts W0 q tv X L x)) :
  Calls Tryz.prog F args X (fun e Y => ∃ a1 n1 c1 a2 n2 c2 a3 n3 c3 a4 n4 c4,e = .returned (.agg #[.string x.name,.slice a1 n1 c1,.slice a2 n2 c2,.slice a3 n3 c3,.slice a4 n4 c4]) ∧ Hid (MkR rNode TNode w.heap.size (Y.alloc (.cells #[.string x.name,.slice a1 n1 c1,.slice a2 n2 c2,.slice a3 n3 c3,.slice a4 n4 c4] 43)) (.slice (some ⟨Y.heap.size,0,none⟩) 1 1) [x] ∧ Pz ts W0 q tv (Y.alloc (.cells #[.string x.name,.slice a1 n1 c1,.slice a2 n2 c2,.slice a3 n3 c3,.slice a4 n4 c4] 43)) L ∧ Tr q w (Y.alloc (.cells #[.string x.name,.slice a1 n1 c1,.slice a2 n2 c2,.slice a3 n3 c3,.slice a4 n4 c4] 43)))):=by
 refine hc.mono ?_
 rintro e Y ⟨a1,n1,c1,a2,n2,c2,a3,n3,c3,a4,n4,c4,rfl,hF,hp,hT⟩
 have hA : Below Y.heap.size Y (Y.alloc (.cells #[.string x.name,.slice a1 n1 c1,.slice a2 n2 c2,.slice a3 n3 c3,.slice a4 n4 c4] 43)):=(Below.refl _ _).alloc (Nat.le_refl _) _
 have hz:=(ht.trans hT).size
 refine ⟨_,_,_,_,_,_,_,_,_,_,_,_,rfl,hide ⟨?_,hp.below hA,(ht.trans hT).trans (Tr.of_below hA)⟩⟩
 exact MkR.one TNode_fr (rawNd x.name a1 n1 c1 a2 n2 c2 a3 n3 c3 a4 n4 c4) (hF.wide ht.size (Nat.le_refl _)) hz rfl
theorem pushNd {F : FuncId} {args : Array Value} {X : World} {x : DNode} {xs : List (DNode)} {oa : Option Addr} {n9 oc : Nat} (hm : MkR rNode TNode w.heap.size X (.slice oa n9 oc) xs) (hl : xs.length ≤ 100000) (hq : q < w.heap.size) (ht : Tr q w X) (hc : Calls Tryz.prog F args X (NPost ts W0 q tv X L x)) :
  Calls Tryz.prog F args X (fun e Y => ∃ a1 n1 c1 a2 n2 c2 a3 n3 c3 a4 n4 c4 va vn vc w5,e = .returned (.agg #[.string x.name,.slice a1 n1 c1,.slice a2 n2 c2,.slice a3 n3 c3,.slice a4 n4 c4]) ∧ Hid ((Builtin.append_ #[23,23] 23 #[.slice oa n9 oc,.slice (some ⟨Y.heap.size,0,none⟩) 1 1]).run Tryz.prog (Y.alloc (.cells #[.string x.name,.slice a1 n1 c1,.slice a2 n2 c2,.slice a3 n3 c3,.slice a4 n4 c4] 43)) = .ok (.slice va vn vc) w5) ∧ Hid (MkR rNode TNode w.heap.size w5 (.slice va vn vc) (xs ++ [x]) ∧ Pz ts W0 q tv w5 L ∧ Tr q w w5)):=by
 refine hc.mono ?_
 rintro e Y ⟨a1,n1,c1,a2,n2,c2,a3,n3,c3,a4,n4,c4,rfl,hF,hp,hT⟩
 have hA : Below Y.heap.size Y (Y.alloc (.cells #[.string x.name,.slice a1 n1 c1,.slice a2 n2 c2,.slice a3 n3 c3,.slice a4 n4 c4] 43)):=(Below.refl _ _).alloc (Nat.le_refl _) _
 obtain ⟨v',w5,hrun,hrow,hg5,hk5⟩:=hm.snoc TNode_fr hT.size (fun b hb hlt => hT.block b hlt (by omega)) hA (c:=rawNd x.name a1 n1 c1 a2 n2 c2 a3 n3 c3 a4 n4 c4) hF ht.size rfl (blk_box Y _ _) (Nat.le_trans (Nat.mul_le_mul_right _ (show xs.length + 1 ≤ 100001 by omega)) (show 100001 * rNode.byt ≤ 140737488355328 by decide)) 23
 obtain ⟨va,vc,rfl⟩:=hrow.slice
 exact ⟨_,_,_,_,_,_,_,_,_,_,_,_,va,_,vc,w5,rfl,hide hrun,hide ⟨hrow,(hp.below hA).grown hg5 (fun b hb => hm.blk b hb) hq,((ht.trans hT).trans (Tr.of_below hA)).grown hg5 (fun b hb => hm.blk b hb)⟩⟩
theorem pushStr {F : FuncId} {args : Array Value} {X : World} {x : ByteArray} {xs : List ByteArray} {oa : Option Addr} {n9 oc : Nat} (hm : OwnV elStr X w.heap.size (.slice oa n9 oc) xs) (hl : xs.length ≤ 100000) (hq : q < w.heap.size) (ht : Tr q w X) (hc : Calls Tryz.prog F args X (SPost ts W0 q tv X L x)) :
  Calls Tryz.prog F args X (fun e Y => ∃ va vn vc w5,e = .returned (.string x) ∧ Hid ((Builtin.append_ #[54,54] 54 #[.slice oa n9 oc,.slice (some ⟨Y.heap.size,0,none⟩) 1 1]).run Tryz.prog (Y.alloc (.cells #[.string x] 9)) = .ok (.slice va vn vc) w5) ∧ Hid (OwnV elStr w5 w.heap.size (.slice va vn vc) (xs ++ [x]) ∧ Pz ts W0 q tv w5 L ∧ Tr q w w5)):=by
 refine hc.mono ?_
 rintro e Y ⟨rfl,hp,hT⟩
 have hA : Below Y.heap.size Y (Y.alloc (.cells #[.string x] 9)):=(Below.refl _ _).alloc (Nat.le_refl _) _
 have hY : OwnV elStr Y w.heap.size (.slice oa n9 oc) xs:=hm.ofBlock (fun b hb => hT.block b (World.ownsRow.lt hm b hb).2 (by have:=(World.ownsRow.lt hm b hb).1; omega))
 obtain ⟨v',w5,hrun,hrow,hg5,hn5⟩:=run_append_one elStr (Y.alloc (.cells #[.string x] 9)) 54 w.heap.size (.slice oa n9 oc) xs (hY.below hA) Y.heap.size x (fun j u hu => (blk_box Y #[.string x] 9).cell (i:=j) (v:=u) (by simpa [elStr] using hu)) (by simp [elStr]; omega) (by have:=(ht.trans hT).size; have:=hA.size; omega)
 obtain ⟨va,vc,rfl⟩:=hrow.slice
 exact ⟨va,_,vc,w5,rfl,hide hrun,hide ⟨hrow,(hp.below hA).grown hg5 (fun b hb => hm.block b hb) hq,((ht.trans hT).trans (Tr.of_below hA)).grown hg5 (fun b hb => hm.block b hb)⟩⟩
theorem firstStr {F : FuncId} {args : Array Value} {X : World} {x : ByteArray} (ht : Tr q w X) (hc : Calls Tryz.prog F args X (SPost ts W0 q tv X L x)) :
  Calls Tryz.prog F args X (fun e Y => e = .returned (.string x) ∧ Hid (OwnV elStr (Y.alloc (.cells #[.string x] 9)) w.heap.size (.slice (some ⟨Y.heap.size,0,none⟩) 1 1) [x] ∧ Pz ts W0 q tv (Y.alloc (.cells #[.string x] 9)) L ∧ Tr q w (Y.alloc (.cells #[.string x] 9)))):=by
 refine hc.mono ?_
 rintro e Y ⟨rfl,hp,hT⟩
 have hA : Below Y.heap.size Y (Y.alloc (.cells #[.string x] 9)):=(Below.refl _ _).alloc (Nat.le_refl _) _
 refine ⟨rfl,hide ⟨⟨by simp [elStr],Or.inr ⟨Y.heap.size,1,#[.string x],rfl,(ht.trans hT).size,blk_box Y _ _,Nat.le_refl _,by simp [maxLen],by simp [elStr],by simp [elStr]⟩⟩,hp.below hA,(ht.trans hT).trans (Tr.of_below hA)⟩⟩
theorem tail_head {α : Type} (sign : ByteArray) (rest : List (List Pc × α)) (t : Pc) (L : List Pc) : ∃ m M,rest.flatMap (fun z => fx sign :: z.1) ++ t :: L = m :: M ∧ (m = fx sign ∨ m = t):=by
 cases rest with
 | nil => exact ⟨t,L,rfl,Or.inr rfl⟩
 | cons z r => exact ⟨fx sign,_,rfl,Or.inl rfl⟩
set_option maxHeartbeats 4000000 in
theorem sepVar {sign : ByteArray} {t : Pc} {L : List Pc} (z0 : List Pc × DVar) (zs : List (List Pc × DVar)) (hone : ∀ z ∈ z0 :: zs,∀ X m M,(m = fx sign ∨ m = t) → Pz ts W0 q tv X (z.1 ++ m :: M) → Calls Tryz.prog 76 #[.pointer (some ⟨q,0,none⟩)] X (VPost ts W0 q tv X (m :: M) z.2)) (h : Pz ts W0 q tv w (z0.1 ++ (zs.flatMap (fun z => fx sign :: z.1) ++ t :: L))) (ht : ¬ t.text = sign) (hl : zs.length ≤ 20000) :
  Calls Tryz.prog 75 #[.pointer (some ⟨q,0,none⟩),.string sign,.func (.func 76) #[.pointer (some ⟨q,0,none⟩)] #[]] w (fun e w' => ∃ a n c,e = .returned (.slice a n c) ∧ MkR rVar TVar w.heap.size w' (.slice a n c) (z0.2 :: zs.map (·.2)) ∧ Pz ts W0 q tv w' (t :: L) ∧ Tr q w w'):=by
 have hql:=h.lt
 obtain ⟨m0,M0,e0,hm0⟩:=tail_head sign zs t L
 have HF1:=hide (firstVar (w:=w) (Tr.refl q w) (hone z0 (List.mem_cons_self ..) w m0 M0 hm0 (e0 ▸ h)))
 rw [← e0] at HF1
 have HONE:=hide hone
 have HT:=hide ht
 clear h hone ht e0 hm0
 obtain ⟨PO,hPO⟩ : ∃ PO : Ending → World → Prop,PO = fun e w' => ∃ a n c,e = .returned (.slice a n c) ∧ MkR rVar TVar w.heap.size w' (.slice a n c) (z0.2 :: zs.map (·.2)) ∧ Pz ts W0 q tv w' (t :: L) ∧ Tr q w w':=⟨_,rfl⟩
 rw [← hPO]
 have HPO:=hide hPO
 clear hPO
 go_enter Tryz.func75,Tryz.ntmps75
 go_wp2_with fail
 refine (uh HF1).mono ?_
 rintro e w1 ⟨a9,n9,c9,rfl,HM1⟩
 clear HF1
 go_wp2
 go_loopg [7] zs.length (fun g v wr => ∃ (pre rest : List (List Pc × DVar)),zs = pre ++ rest ∧ g = rest.length ∧ MkR rVar TVar w.heap.size wr v (z0.2 :: pre.map (·.2)) ∧ Pz ts W0 q tv wr (rest.flatMap (fun z => fx sign :: z.1) ++ t :: L) ∧ Tr q w wr)
 case atStart => exact ⟨[],zs,rfl,rfl,(uh HM1).1,(uh HM1).2.1,(uh HM1).2.2⟩
 case round =>
  obtain ⟨pre,rest,hzs,hg,hrow,hpz,htr⟩:=hrel
  have HG:=hide hg
  have HP:=hide hpz
  have HR:=hide hrow
  have HTR:=hide htr
  obtain ⟨va,n8,vc,hv8⟩ : ∃ a n c,u7 = .slice a n c:=by
   obtain ⟨a9,c9,h9⟩:=hrow.slice
   exact ⟨a9,_,c9,h9⟩
  subst hv8
  clear hg hpz hrow htr
  cases rest with
  | nil =>
   have HC:=hide (pz_takesno (uh HP) (uh HT))
   have HF : Hid (∀ X,Pz ts W0 q tv X (t :: L) → Tr q wr X → PO (.returned (.slice va n8 vc)) X):=fun X hp hT => by
    rw [uh HPO]
    have e : zs = pre:=by rw [hzs,List.append_nil]
    rw [e]
    refine ⟨va,n8,vc,rfl,?_,hp,(uh HTR).trans hT⟩
    exact (uh HR).keep TVar_fr hT.size (fun b hb hlt => hT.block b hlt (by omega))
   clear hzs
   go_wp2_with fail
   refine (uh HC).mono ?_
   rintro e w2 ⟨rfl,hp2,ht2⟩
   have HF2:=hide (uh HF _ hp2 ht2)
   clear hp2 ht2
   go_wp2
   first | go_ret | skip
   exact uh HF2
  | cons z r =>
   have HC:=hide (pz_takes (W:=sign) (uh HP) rfl)
   have hpl : pre.length < 20000:=by rw [hzs] at hl; simp at hl; omega
   have HZS : Hid (zs = (pre ++ [z]) ++ r):=by show zs = _; rw [hzs]; simp
   have hzm : z ∈ z0 :: zs:=by rw [hzs]; simp
   go_wp2_with fail
   refine (uh HC).mono ?_
   rintro e w2 ⟨rfl,hp2,ht2⟩
   obtain ⟨m,M,em,hm⟩:=tail_head sign r t L
   have hp2' : Pz ts W0 q tv w2 (z.1 ++ m :: M):=by
    have h9 : Pz ts W0 q tv w2 (z.1 ++ (r.flatMap (fun z => fx sign :: z.1)) ++ t :: L):=hp2
    rw [List.append_assoc,em] at h9
    exact h9
   have hrow2 : MkR rVar TVar w.heap.size w2 (.slice va n8 vc) (z0.2 :: pre.map (·.2)):=(uh HR).keep TVar_fr ht2.size (fun b hb hlt => ht2.block b hlt (by omega))
   have HPU:=hide (pushVar (w:=w) hrow2 (by simp; omega) hql ((uh HTR).trans ht2) (uh HONE z hzm w2 m M hm hp2'))
   rw [← em] at HPU
   clear hp2 ht2 hp2' hrow2 em hm hzm hzs HC
   go_wp2_with fail
   refine (uh HPU).mono ?_
   rintro e w3 ⟨a9,n9,c9,va5,vn5,vc5,w5,rfl,HRUN,H5⟩
   clear HPU
   go_wp2_with (at_builtin; go_must (refine wpList_append_run rfl _ _ 40 40 rfl rfl _ _ _ rfl rfl (uh HRUN) ?_))
   go_wp2
   go_roundg r.length
   case measure => have:=uh HG; simp at this; omega
   case rel => exact ⟨pre ++ [z],r,uh HZS,rfl,by have h9:=(uh H5).1; simpa using h9,(uh H5).2.1,(uh H5).2.2⟩
set_option maxHeartbeats 4000000 in
theorem sepIts {sign : ByteArray} {t : Pc} {L : List Pc} (z0 : List Pc × List DItem) (zs : List (List Pc × List DItem)) (hone : ∀ z ∈ z0 :: zs,∀ X m M,(m = fx sign ∨ m = t) → Pz ts W0 q tv X (z.1 ++ m :: M) → Calls Tryz.prog 99 #[.pointer (some ⟨q,0,none⟩)] X (IPost ts W0 q tv X (m :: M) z.2)) (h : Pz ts W0 q tv w (z0.1 ++ (zs.flatMap (fun z => fx sign :: z.1) ++ t :: L))) (ht : ¬ t.text = sign) (hl : zs.length ≤ 20000) :
  Calls Tryz.prog 108 #[.pointer (some ⟨q,0,none⟩),.string sign,.func (.func 99) #[.pointer (some ⟨q,0,none⟩)] #[]] w (fun e w' => ∃ a n c,e = .returned (.slice a n c) ∧ MkR rItems TItems w.heap.size w' (.slice a n c) (z0.2 :: zs.map (·.2)) ∧ Pz ts W0 q tv w' (t :: L) ∧ Tr q w w'):=by
 have hql:=h.lt
 obtain ⟨m0,M0,e0,hm0⟩:=tail_head sign zs t L
 have HF1:=hide (firstIts (w:=w) (Tr.refl q w) (hone z0 (List.mem_cons_self ..) w m0 M0 hm0 (e0 ▸ h)))
 rw [← e0] at HF1
 have HONE:=hide hone
 have HT:=hide ht
 clear h hone ht e0 hm0
 obtain ⟨PO,hPO⟩ : ∃ PO : Ending → World → Prop,PO = fun e w' => ∃ a n c,e = .returned (.slice a n c) ∧ MkR rItems TItems w.heap.size w' (.slice a n c) (z0.2 :: zs.map (·.2)) ∧ Pz ts W0 q tv w' (t :: L) ∧ Tr q w w':=⟨_,rfl⟩
 rw [← hPO]
 have HPO:=hide hPO
 clear hPO
 go_enter Tryz.func108,Tryz.ntmps108
 go_wp2_with fail
 refine (uh HF1).mono ?_
 rintro e w1 ⟨a9,n9,c9,rfl,HM1⟩
 clear HF1
 go_wp2
 go_loopg [7] zs.length (fun g v wr => ∃ (pre rest : List (List Pc × List DItem)),zs = pre ++ rest ∧ g = rest.length ∧ MkR rItems TItems w.heap.size wr v (z0.2 :: pre.map (·.2)) ∧ Pz ts W0 q tv wr (rest.flatMap (fun z => fx sign :: z.1) ++ t :: L) ∧ Tr q w wr)
 case atStart => exact ⟨[],zs,rfl,rfl,(uh HM1).1,(uh HM1).2.1,(uh HM1).2.2⟩
 case round =>
  obtain ⟨pre,rest,hzs,hg,hrow,hpz,htr⟩:=hrel
  have HG:=hide hg
  have HP:=hide hpz
  have HR:=hide hrow
  have HTR:=hide htr
  obtain ⟨va,n8,vc,hv8⟩ : ∃ a n c,u7 = .slice a n c:=by
   obtain ⟨a9,c9,h9⟩:=hrow.slice
   exact ⟨a9,_,c9,h9⟩
  subst hv8
  clear hg hpz hrow htr
  cases rest with
  | nil =>
   have HC:=hide (pz_takesno (uh HP) (uh HT))
   have HF : Hid (∀ X,Pz ts W0 q tv X (t :: L) → Tr q wr X → PO (.returned (.slice va n8 vc)) X):=fun X hp hT => by
    rw [uh HPO]
    have e : zs = pre:=by rw [hzs,List.append_nil]
    rw [e]
    refine ⟨va,n8,vc,rfl,?_,hp,(uh HTR).trans hT⟩
    exact (uh HR).keep TItems_fr hT.size (fun b hb hlt => hT.block b hlt (by omega))
   clear hzs
   go_wp2_with fail
   refine (uh HC).mono ?_
   rintro e w2 ⟨rfl,hp2,ht2⟩
   have HF2:=hide (uh HF _ hp2 ht2)
   clear hp2 ht2
   go_wp2
   first | go_ret | skip
   exact uh HF2
  | cons z r =>
   have HC:=hide (pz_takes (W:=sign) (uh HP) rfl)
   have hpl : pre.length < 20000:=by rw [hzs] at hl; simp at hl; omega
   have HZS : Hid (zs = (pre ++ [z]) ++ r):=by show zs = _; rw [hzs]; simp
   have hzm : z ∈ z0 :: zs:=by rw [hzs]; simp
   go_wp2_with fail
   refine (uh HC).mono ?_
   rintro e w2 ⟨rfl,hp2,ht2⟩
   obtain ⟨m,M,em,hm⟩:=tail_head sign r t L
   have hp2' : Pz ts W0 q tv w2 (z.1 ++ m :: M):=by
    have h9 : Pz ts W0 q tv w2 (z.1 ++ (r.flatMap (fun z => fx sign :: z.1)) ++ t :: L):=hp2
    rw [List.append_assoc,em] at h9
    exact h9
   have hrow2 : MkR rItems TItems w.heap.size w2 (.slice va n8 vc) (z0.2 :: pre.map (·.2)):=(uh HR).keep TItems_fr ht2.size (fun b hb hlt => ht2.block b hlt (by omega))
   have HPU:=hide (pushIts (w:=w) hrow2 (by simp; omega) hql ((uh HTR).trans ht2) (uh HONE z hzm w2 m M hm hp2'))
   rw [← em] at HPU
   clear hp2 ht2 hp2' hrow2 em hm hzm hzs HC
   go_wp2_with fail
   refine (uh HPU).mono ?_
   rintro e w3 ⟨a9,n9,c9,va5,vn5,vc5,w5,rfl,HRUN,H5⟩
   clear HPU
   go_wp2_with (at_builtin; go_must (refine wpList_append_run rfl _ _ 56 56 rfl rfl _ _ _ rfl rfl (uh HRUN) ?_))
   go_wp2
   go_roundg r.length
   case measure => have:=uh HG; simp at this; omega
   case rel => exact ⟨pre ++ [z],r,uh HZS,rfl,by have h9:=(uh H5).1; simpa using h9,(uh H5).2.1,(uh H5).2.2⟩
set_option maxHeartbeats 4000000 in
theorem sepStr {sign : ByteArray} {t : Pc} {L : List Pc} (z0 : List Pc × ByteArray) (zs : List (List Pc × ByteArray)) (hone : ∀ z ∈ z0 :: zs,∀ X m M,(m = fx sign ∨ m = t) → Pz ts W0 q tv X (z.1 ++ m :: M) → Calls Tryz.prog 73 #[.pointer (some ⟨q,0,none⟩)] X (SPost ts W0 q tv X (m :: M) z.2)) (h : Pz ts W0 q tv w (z0.1 ++ (zs.flatMap (fun z => fx sign :: z.1) ++ t :: L))) (ht : ¬ t.text = sign) (hl : zs.length ≤ 20000) :
  Calls Tryz.prog 97 #[.pointer (some ⟨q,0,none⟩),.string sign,.func (.func 73) #[.pointer (some ⟨q,0,none⟩)] #[]] w (fun e w' => ∃ a n c,e = .returned (.slice a n c) ∧ OwnV elStr w' w.heap.size (.slice a n c) (z0.2 :: zs.map (·.2)) ∧ Pz ts W0 q tv w' (t :: L) ∧ Tr q w w'):=by
 have hql:=h.lt
 obtain ⟨m0,M0,e0,hm0⟩:=tail_head sign zs t L
 have HF1:=hide (firstStr (w:=w) (Tr.refl q w) (hone z0 (List.mem_cons_self ..) w m0 M0 hm0 (e0 ▸ h)))
 rw [← e0] at HF1
 have HONE:=hide hone
 have HT:=hide ht
 clear h hone ht e0 hm0
 obtain ⟨PO,hPO⟩ : ∃ PO : Ending → World → Prop,PO = fun e w' => ∃ a n c,e = .returned (.slice a n c) ∧ OwnV elStr w' w.heap.size (.slice a n c) (z0.2 :: zs.map (·.2)) ∧ Pz ts W0 q tv w' (t :: L) ∧ Tr q w w':=⟨_,rfl⟩
 rw [← hPO]
 have HPO:=hide hPO
 clear hPO
 go_enter Tryz.func97,Tryz.ntmps97
 go_wp2_with fail
 refine (uh HF1).mono ?_
 rintro e w1 ⟨rfl,HM1⟩
 clear HF1
 go_wp2
 go_loopg [7] zs.length (fun g v wr => ∃ (pre rest : List (List Pc × ByteArray)),zs = pre ++ rest ∧ g = rest.length ∧ OwnV elStr wr w.heap.size v (z0.2 :: pre.map (·.2)) ∧ Pz ts W0 q tv wr (rest.flatMap (fun z => fx sign :: z.1) ++ t :: L) ∧ Tr q w wr)
 case atStart => exact ⟨[],zs,rfl,rfl,(uh HM1).1,(uh HM1).2.1,(uh HM1).2.2⟩
 case round =>
  obtain ⟨pre,rest,hzs,hg,hrow,hpz,htr⟩:=hrel
  have HG:=hide hg
  have HP:=hide hpz
  have HR:=hide hrow
  have HTR:=hide htr
  obtain ⟨va,n8,vc,hv8⟩ : ∃ a n c,u7 = .slice a n c:=by
   obtain ⟨a9,c9,h9⟩:=hrow.slice
   exact ⟨a9,_,c9,h9⟩
  subst hv8
  clear hg hpz hrow htr
  cases rest with
  | nil =>
   have HC:=hide (pz_takesno (uh HP) (uh HT))
   have HF : Hid (∀ X,Pz ts W0 q tv X (t :: L) → Tr q wr X → PO (.returned (.slice va n8 vc)) X):=fun X hp hT => by
    rw [uh HPO]
    have e : zs = pre:=by rw [hzs,List.append_nil]
    rw [e]
    refine ⟨va,n8,vc,rfl,?_,hp,(uh HTR).trans hT⟩
    exact (uh HR).ofBlock (fun b hb => hT.block b (World.ownsRow.lt (uh HR) b hb).2 (by have:=(World.ownsRow.lt (uh HR) b hb).1; omega))
   clear hzs
   go_wp2_with fail
   refine (uh HC).mono ?_
   rintro e w2 ⟨rfl,hp2,ht2⟩
   have HF2:=hide (uh HF _ hp2 ht2)
   clear hp2 ht2
   go_wp2
   first | go_ret | skip
   exact uh HF2
  | cons z r =>
   have HC:=hide (pz_takes (W:=sign) (uh HP) rfl)
   have hpl : pre.length < 20000:=by rw [hzs] at hl; simp at hl; omega
   have HZS : Hid (zs = (pre ++ [z]) ++ r):=by show zs = _; rw [hzs]; simp
   have hzm : z ∈ z0 :: zs:=by rw [hzs]; simp
   go_wp2_with fail
   refine (uh HC).mono ?_
   rintro e w2 ⟨rfl,hp2,ht2⟩
   obtain ⟨m,M,em,hm⟩:=tail_head sign r t L
   have hp2' : Pz ts W0 q tv w2 (z.1 ++ m :: M):=by
    have h9 : Pz ts W0 q tv w2 (z.1 ++ (r.flatMap (fun z => fx sign :: z.1)) ++ t :: L):=hp2
    rw [List.append_assoc,em] at h9
    exact h9
   have hrow2 : OwnV elStr w2 w.heap.size (.slice va n8 vc) (z0.2 :: pre.map (·.2)):=(uh HR).ofBlock (fun b hb => ht2.block b (World.ownsRow.lt (uh HR) b hb).2 (by have:=(World.ownsRow.lt (uh HR) b hb).1; omega))
   have HPU:=hide (pushStr (w:=w) hrow2 (by simp; omega) hql ((uh HTR).trans ht2) (uh HONE z hzm w2 m M hm hp2'))
   rw [← em] at HPU
   clear hp2 ht2 hp2' hrow2 em hm hzm hzs HC
   go_wp2_with fail
   refine (uh HPU).mono ?_
   rintro e w3 ⟨va5,vn5,vc5,w5,rfl,HRUN,H5⟩
   clear HPU
   go_wp2_with (at_builtin; go_must (refine wpList_append_run rfl _ _ 54 54 rfl rfl _ _ _ rfl rfl (uh HRUN) ?_))
   go_wp2
   go_roundg r.length
   case measure => have:=uh HG; simp at this; omega
   case rel => exact ⟨pre ++ [z],r,uh HZS,rfl,by have h9:=(uh H5).1; simpa using h9,(uh H5).2.1,(uh H5).2.2⟩
end
end Go.Proofs.YtajabbnlbopcbaaGreatDoor
namespace Go.Proofs.YtajabbnlbopcbaaGreatDoor
open Go.RowKit
set_option linter.unusedSimpArgs false
set_option linter.unusedVariables false
section
variable {ts : List TK} {W0 : World} {q : Nat} {tv iv iv' : Value} {W1 w : World} {L : List Pc} {xs : List DItem}
set_option maxHeartbeats 4000000 in
theorem endVar {word : ByteArray} {L : List Pc} (zs : List (List Pc × DVar)) (hz : 1 ≤ zs.length) (hone : ∀ z ∈ zs,∀ X M,Pz ts W0 q tv X (z.1 ++ fx Ksem :: M) → Calls Tryz.prog 79 #[.pointer (some ⟨q,0,none⟩)] X (VPost ts W0 q tv X (fx Ksem :: M) z.2)) (hfst : ∀ z ∈ zs,∃ a T,z.1 = a :: T ∧ ¬ a.text = word) (h : Pz ts W0 q tv w (zs.flatMap (fun z => z.1 ++ [fx Ksem]) ++ fx word :: L)) (hl : zs.length ≤ 20000) :
  Calls Tryz.prog 78 #[.pointer (some ⟨q,0,none⟩),.string word,.func (.func 79) #[.pointer (some ⟨q,0,none⟩)] #[]] w (fun e w' => ∃ a n c,e = .returned (.slice a n c) ∧ MkR rVar TVar w.heap.size w' (.slice a n c) (zs.map (·.2)) ∧ Pz ts W0 q tv w' (fx word :: L) ∧ Tr q w w'):=by
 have hql:=h.lt
 have HP0:=hide h
 have HONE:=hide hone
 have HFST:=hide hfst
 clear h hone hfst
 obtain ⟨PO,hPO⟩ : ∃ PO : Ending → World → Prop,PO = fun e w' => ∃ a n c,e = .returned (.slice a n c) ∧ MkR rVar TVar w.heap.size w' (.slice a n c) (zs.map (·.2)) ∧ Pz ts W0 q tv w' (fx word :: L) ∧ Tr q w w':=⟨_,rfl⟩
 rw [← hPO]
 have HPO:=hide hPO
 clear hPO
 go_enter Tryz.func78,Tryz.ntmps78
 go_wp2
 go_loopg [7] zs.length (fun g v wr => ∃ (pre rest : List (List Pc × DVar)),zs = pre ++ rest ∧ g = rest.length ∧ MkR rVar TVar w.heap.size wr v (pre.map (·.2)) ∧ Pz ts W0 q tv wr (rest.flatMap (fun z => z.1 ++ [fx Ksem]) ++ fx word :: L) ∧ Tr q w wr)
 case atStart => exact ⟨[],zs,rfl,rfl,MkR.nil _ _ _ _,uh HP0,Tr.refl _ _⟩
 case round =>
  obtain ⟨pre,rest,hzs,hg,hrow,hpz,htr⟩:=hrel
  have HG:=hide hg
  have HP:=hide hpz
  have HR:=hide hrow
  have HTR:=hide htr
  obtain ⟨va,n8,vc,hv8,hn8⟩ : ∃ a n c,u7 = .slice a n c ∧ n = pre.length:=by
   obtain ⟨a9,c9,h9⟩:=hrow.slice
   exact ⟨a9,_,c9,h9,by simp⟩
  subst hv8
  have HN8:=hide hn8
  clear hg hpz hrow htr hn8
  cases rest with
  | nil =>
   have hn0 : ((n8 : Int) == 0) = false:=by
    rw [beq_eq_false_iff_ne]
    rw [hzs,List.append_nil] at hz
    have:=uh HN8
    omega
   have HC:=hide (pz_sees (uh HP) word)
   simp only [fx,decide_true] at HC
   have HF : Hid (∀ X,Pz ts W0 q tv X (fx word :: L) → Tr q wr X → PO (.returned (.slice va n8 vc)) X):=fun X hp hT => by
    rw [uh HPO]
    have e : zs = pre:=by rw [hzs,List.append_nil]
    rw [e]
    exact ⟨va,n8,vc,rfl,(uh HR).keep TVar_fr hT.size (fun b hb hlt => hT.block b hlt (by omega)),hp,(uh HTR).trans hT⟩
   clear hzs hz
   go_wp2_with (go_at_call 74; refine (uh HC).mono ?_; rintro e w2 ⟨rfl,hp2,ht2⟩; have HF2:=hide (uh HF _ hp2 ht2); clear hp2 ht2)
   first | go_ret | skip
   exact uh HF2
  | cons z r =>
   have hpl : pre.length < 20000:=by rw [hzs] at hl; simp at hl; omega
   have HZS : Hid (zs = (pre ++ [z]) ++ r):=by show zs = _; rw [hzs]; simp
   have hzm : z ∈ zs:=by rw [hzs]; simp
   obtain ⟨az,Tz,hz1,hz2⟩:=uh HFST z hzm
   have HPX : Hid (∀ X,Pz ts W0 q tv X (z.1 ++ fx Ksem :: (r.flatMap (fun z => z.1 ++ [fx Ksem]) ++ fx word :: L)) → Tr q wr X → Calls Tryz.prog 79 #[.pointer (some ⟨q,0,none⟩)] X _):=hide (fun X hp hT => pushVar (w:=w) ((uh HR).keep TVar_fr hT.size (fun b hb hlt => hT.block b hlt (by omega))) (by simp; omega) hql ((uh HTR).trans hT) (uh HONE z hzm X _ hp))
   have HP1 : Hid (Pz ts W0 q tv wr (z.1 ++ fx Ksem :: (r.flatMap (fun z => z.1 ++ [fx Ksem]) ++ fx word :: L))):=by
    have h9:=uh HP
    simp only [List.flatMap_cons,List.append_assoc,List.cons_append,List.nil_append] at h9
    exact h9
   by_cases hn0 : n8 = 0
   ·have d0 : ((n8 : Int) == 0) = true:=by rw [beq_iff_eq]; omega
    have HPU:=hide (uh HPX wr (uh HP1) (Tr.refl _ _))
    clear hz1 hz2 hzm hzs hn0
    go_wp2_with fail
    refine (uh HPU).mono ?_
    rintro e w3 ⟨a9,n9,c9,va5,vn5,vc5,w5,rfl,HRUN,H5⟩
    have HW:=hide (pz_want (uh H5).2.1 (W:=Ksem) rfl)
    clear HPU
    go_wp2_with (at_builtin; go_must (refine wpList_append_run rfl _ _ 40 40 rfl rfl _ _ _ rfl rfl (uh HRUN) ?_))
    go_wp2_with fail
    refine (uh HW).mono ?_
    rintro e w6 ⟨rfl,hp6,ht6⟩
    have HM6:=hide ((uh H5).1.keep TVar_fr ht6.size (fun b hb hlt => ht6.block b hlt (by omega)))
    have HP6:=hide hp6
    have HT6:=hide ((uh H5).2.2.trans ht6)
    clear hp6 ht6 HW
    go_wp2
    go_roundg r.length
    case measure => have:=uh HG; simp at this; omega
    case rel => exact ⟨pre ++ [z],r,uh HZS,rfl,by have h9:=uh HM6; simpa using h9,uh HP6,uh HT6⟩
   ·have d0 : ((n8 : Int) == 0) = false:=by rw [beq_eq_false_iff_ne]; omega
    have hps : Pz ts W0 q tv wr (az :: (Tz ++ fx Ksem :: (r.flatMap (fun z => z.1 ++ [fx Ksem]) ++ fx word :: L))):=by
     have h9:=uh HP1
     rw [hz1] at h9
     exact h9
    have HC:=pz_sees hps word
    rw [decide_eq_false hz2] at HC
    have HC:=hide HC
    have HB : Hid (∀ X,Pz ts W0 q tv X (az :: (Tz ++ fx Ksem :: (r.flatMap (fun z => z.1 ++ [fx Ksem]) ++ fx word :: L))) → Pz ts W0 q tv X (z.1 ++ fx Ksem :: (r.flatMap (fun z => z.1 ++ [fx Ksem]) ++ fx word :: L))):=hide (fun X h9 => by rw [hz1]; exact h9)
    clear hz1 hz2 hzm hzs hn0 hps
    go_wp2_with (first | (go_at_call 74; refine (uh HC).mono ?_; rintro e w2 ⟨rfl,hp2,ht2⟩; have HPU:=hide (uh HPX _ (uh HB _ hp2) ht2); clear hp2 ht2 HC) | (go_at_call 79; refine (uh HPU).mono ?_; rintro e w3 ⟨a9,n9,c9,va5,vn5,vc5,w5,rfl,HRUN,H5⟩; have HW:=hide (pz_want (uh H5).2.1 (W:=Ksem) rfl); clear HPU) | (at_builtin; go_must (refine wpList_append_run rfl _ _ 40 40 rfl rfl _ _ _ rfl rfl (uh HRUN) ?_)))
    go_wp2_with fail
    refine (uh HW).mono ?_
    rintro e w6 ⟨rfl,hp6,ht6⟩
    have HM6:=hide ((uh H5).1.keep TVar_fr ht6.size (fun b hb hlt => ht6.block b hlt (by omega)))
    have HP6:=hide hp6
    have HT6:=hide ((uh H5).2.2.trans ht6)
    clear hp6 ht6 HW
    go_wp2
    go_roundg r.length
    case measure => have:=uh HG; simp at this; omega
    case rel => exact ⟨pre ++ [z],r,uh HZS,rfl,by have h9:=uh HM6; simpa using h9,uh HP6,uh HT6⟩
set_option maxHeartbeats 4000000 in
theorem endEq {word : ByteArray} {L : List Pc} (zs : List (List Pc × DEq)) (hz : 1 ≤ zs.length) (hone : ∀ z ∈ zs,∀ X M,Pz ts W0 q tv X (z.1 ++ fx Ksem :: M) → Calls Tryz.prog 81 #[.pointer (some ⟨q,0,none⟩)] X (EPost ts W0 q tv X (fx Ksem :: M) z.2)) (hfst : ∀ z ∈ zs,∃ a T,z.1 = a :: T ∧ ¬ a.text = word) (h : Pz ts W0 q tv w (zs.flatMap (fun z => z.1 ++ [fx Ksem]) ++ fx word :: L)) (hl : zs.length ≤ 20000) :
  Calls Tryz.prog 80 #[.pointer (some ⟨q,0,none⟩),.string word,.func (.func 81) #[.pointer (some ⟨q,0,none⟩)] #[]] w (fun e w' => ∃ a n c,e = .returned (.slice a n c) ∧ MkR rEq TEq w.heap.size w' (.slice a n c) (zs.map (·.2)) ∧ Pz ts W0 q tv w' (fx word :: L) ∧ Tr q w w'):=by
 have hql:=h.lt
 have HP0:=hide h
 have HONE:=hide hone
 have HFST:=hide hfst
 clear h hone hfst
 obtain ⟨PO,hPO⟩ : ∃ PO : Ending → World → Prop,PO = fun e w' => ∃ a n c,e = .returned (.slice a n c) ∧ MkR rEq TEq w.heap.size w' (.slice a n c) (zs.map (·.2)) ∧ Pz ts W0 q tv w' (fx word :: L) ∧ Tr q w w':=⟨_,rfl⟩
 rw [← hPO]
 have HPO:=hide hPO
 clear hPO
 go_enter Tryz.func80,Tryz.ntmps80
 go_wp2
 go_loopg [7] zs.length (fun g v wr => ∃ (pre rest : List (List Pc × DEq)),zs = pre ++ rest ∧ g = rest.length ∧ MkR rEq TEq w.heap.size wr v (pre.map (·.2)) ∧ Pz ts W0 q tv wr (rest.flatMap (fun z => z.1 ++ [fx Ksem]) ++ fx word :: L) ∧ Tr q w wr)
 case atStart => exact ⟨[],zs,rfl,rfl,MkR.nil _ _ _ _,uh HP0,Tr.refl _ _⟩
 case round =>
  obtain ⟨pre,rest,hzs,hg,hrow,hpz,htr⟩:=hrel
  have HG:=hide hg
  have HP:=hide hpz
  have HR:=hide hrow
  have HTR:=hide htr
  obtain ⟨va,n8,vc,hv8,hn8⟩ : ∃ a n c,u7 = .slice a n c ∧ n = pre.length:=by
   obtain ⟨a9,c9,h9⟩:=hrow.slice
   exact ⟨a9,_,c9,h9,by simp⟩
  subst hv8
  have HN8:=hide hn8
  clear hg hpz hrow htr hn8
  cases rest with
  | nil =>
   have hn0 : ((n8 : Int) == 0) = false:=by
    rw [beq_eq_false_iff_ne]
    rw [hzs,List.append_nil] at hz
    have:=uh HN8
    omega
   have HC:=hide (pz_sees (uh HP) word)
   simp only [fx,decide_true] at HC
   have HF : Hid (∀ X,Pz ts W0 q tv X (fx word :: L) → Tr q wr X → PO (.returned (.slice va n8 vc)) X):=fun X hp hT => by
    rw [uh HPO]
    have e : zs = pre:=by rw [hzs,List.append_nil]
    rw [e]
    exact ⟨va,n8,vc,rfl,(uh HR).keep TEq_fr hT.size (fun b hb hlt => hT.block b hlt (by omega)),hp,(uh HTR).trans hT⟩
   clear hzs hz
   go_wp2_with (go_at_call 74; refine (uh HC).mono ?_; rintro e w2 ⟨rfl,hp2,ht2⟩; have HF2:=hide (uh HF _ hp2 ht2); clear hp2 ht2)
   first | go_ret | skip
   exact uh HF2
  | cons z r =>
   have hpl : pre.length < 20000:=by rw [hzs] at hl; simp at hl; omega
   have HZS : Hid (zs = (pre ++ [z]) ++ r):=by show zs = _; rw [hzs]; simp
   have hzm : z ∈ zs:=by rw [hzs]; simp
   obtain ⟨az,Tz,hz1,hz2⟩:=uh HFST z hzm
   have HPX : Hid (∀ X,Pz ts W0 q tv X (z.1 ++ fx Ksem :: (r.flatMap (fun z => z.1 ++ [fx Ksem]) ++ fx word :: L)) → Tr q wr X → Calls Tryz.prog 81 #[.pointer (some ⟨q,0,none⟩)] X _):=hide (fun X hp hT => pushEq (w:=w) ((uh HR).keep TEq_fr hT.size (fun b hb hlt => hT.block b hlt (by omega))) (by simp; omega) hql ((uh HTR).trans hT) (uh HONE z hzm X _ hp))
   have HP1 : Hid (Pz ts W0 q tv wr (z.1 ++ fx Ksem :: (r.flatMap (fun z => z.1 ++ [fx Ksem]) ++ fx word :: L))):=by
    have h9:=uh HP
    simp only [List.flatMap_cons,List.append_assoc,List.cons_append,List.nil_append] at h9
    exact h9
   by_cases hn0 : n8 = 0
   ·have d0 : ((n8 : Int) == 0) = true:=by rw [beq_iff_eq]; omega
    have HPU:=hide (uh HPX wr (uh HP1) (Tr.refl _ _))
    clear hz1 hz2 hzm hzs hn0
    go_wp2_with fail
    refine (uh HPU).mono ?_
    rintro e w3 ⟨a19,n19,c19,a29,n29,c29,a39,n39,c39,va5,vn5,vc5,w5,rfl,HRUN,H5⟩
    have HW:=hide (pz_want (uh H5).2.1 (W:=Ksem) rfl)
    clear HPU
    go_wp2_with (at_builtin; go_must (refine wpList_append_run rfl _ _ 41 41 rfl rfl _ _ _ rfl rfl (uh HRUN) ?_))
    go_wp2_with fail
    refine (uh HW).mono ?_
    rintro e w6 ⟨rfl,hp6,ht6⟩
    have HM6:=hide ((uh H5).1.keep TEq_fr ht6.size (fun b hb hlt => ht6.block b hlt (by omega)))
    have HP6:=hide hp6
    have HT6:=hide ((uh H5).2.2.trans ht6)
    clear hp6 ht6 HW
    go_wp2
    go_roundg r.length
    case measure => have:=uh HG; simp at this; omega
    case rel => exact ⟨pre ++ [z],r,uh HZS,rfl,by have h9:=uh HM6; simpa using h9,uh HP6,uh HT6⟩
   ·have d0 : ((n8 : Int) == 0) = false:=by rw [beq_eq_false_iff_ne]; omega
    have hps : Pz ts W0 q tv wr (az :: (Tz ++ fx Ksem :: (r.flatMap (fun z => z.1 ++ [fx Ksem]) ++ fx word :: L))):=by
     have h9:=uh HP1
     rw [hz1] at h9
     exact h9
    have HC:=pz_sees hps word
    rw [decide_eq_false hz2] at HC
    have HC:=hide HC
    have HB : Hid (∀ X,Pz ts W0 q tv X (az :: (Tz ++ fx Ksem :: (r.flatMap (fun z => z.1 ++ [fx Ksem]) ++ fx word :: L))) → Pz ts W0 q tv X (z.1 ++ fx Ksem :: (r.flatMap (fun z => z.1 ++ [fx Ksem]) ++ fx word :: L))):=hide (fun X h9 => by rw [hz1]; exact h9)
    clear hz1 hz2 hzm hzs hn0 hps
    go_wp2_with (first | (go_at_call 74; refine (uh HC).mono ?_; rintro e w2 ⟨rfl,hp2,ht2⟩; have HPU:=hide (uh HPX _ (uh HB _ hp2) ht2); clear hp2 ht2 HC) | (go_at_call 81; refine (uh HPU).mono ?_; rintro e w3 ⟨a19,n19,c19,a29,n29,c29,a39,n39,c39,va5,vn5,vc5,w5,rfl,HRUN,H5⟩; have HW:=hide (pz_want (uh H5).2.1 (W:=Ksem) rfl); clear HPU) | (at_builtin; go_must (refine wpList_append_run rfl _ _ 41 41 rfl rfl _ _ _ rfl rfl (uh HRUN) ?_)))
    go_wp2_with fail
    refine (uh HW).mono ?_
    rintro e w6 ⟨rfl,hp6,ht6⟩
    have HM6:=hide ((uh H5).1.keep TEq_fr ht6.size (fun b hb hlt => ht6.block b hlt (by omega)))
    have HP6:=hide hp6
    have HT6:=hide ((uh H5).2.2.trans ht6)
    clear hp6 ht6 HW
    go_wp2
    go_roundg r.length
    case measure => have:=uh HG; simp at this; omega
    case rel => exact ⟨pre ++ [z],r,uh HZS,rfl,by have h9:=uh HM6; simpa using h9,uh HP6,uh HT6⟩
end
end Go.Proofs.YtajabbnlbopcbaaGreatDoor
