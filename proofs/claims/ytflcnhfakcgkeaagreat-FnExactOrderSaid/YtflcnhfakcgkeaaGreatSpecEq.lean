import Derived.Test.YtflcnhfakcgkeaaGreatItemsB
namespace Go.Proofs.YtflcnhfakcgkeaaGreat
open Go.RowKit
set_option linter.unusedSimpArgs false
set_option linter.unusedVariables false
theorem bf.len' {α:Type} {sz oz lo:Nat} {R:Nat->World->List Value->α->Prop} {w:World} {v:Value} {xs:List α} (h:bf sz oz R lo w v xs):xs.length<=140737488355328:=by
 obtain⟨_,_,_,_,hn,_⟩:=h
 exact hn
theorem aq6 {w:World} {v:Value} {l:List eu} (t:TypeId) (h:bf 3 32 jw 0 w v l):bf 1 24 yu 0 (w.alloc (.cells #[v] t)) (.slice (some ⟨w.heap.size,0,none⟩) 1 1) [l]:=by
 refine⟨_,_,rfl,⟨by simp[Len],by simp⟩,by simp[Len],fun i hi=>?_⟩
 have hi0:i=0:=by simpa using hi
 subst hi0
 refine⟨_,_,[v],rfl,Nat.zero_le _,by simp,rfl,fun j hj=>?_,⟨v,rfl,h.stays je ((Below.refl _ _).alloc (Nat.le_refl _) _)⟩⟩
 have hj0:j=0:=by simpa using hj
 subst hj0
 simp only[Nat.zero_mul,Nat.add_zero]
 rw[World.cell?_alloc_at _ _ _ _ rfl]
 rfl
set_option maxHeartbeats 4000000 in
theorem aq7 (x:qg) (a1 a2 a3:Value) (w:World) (hs:Len x.call.size) (h1:bf 1 16 Cc 0 w a1 x.lhs) (h2:bf 3 32 jw 0 w a2 x.code) (h3:bf 1 24 yu 0 w a3 x.args) :
  Calls Tryz.prog 64 #[.agg #[a1,a2,.string x.call,a3]] w (Ans (.bool (Eb x)) w):=by
 obtain⟨lhs,code,s,args⟩:=x
 simp only[Eb] at *
 have n1:=h1.len'
 have n2:=h2.len'
 have n3:=h3.len'
 obtain⟨b1,c1,rfl⟩:=h1.shape
 obtain⟨b2,c2,rfl⟩:=h2.shape
 obtain⟨b3,c3,rfl⟩:=h3.shape
 have H2:=hide h2
 have H3:=hide h3
 obtain⟨_,_,hv1,_,_,hx1⟩:=h1
 simp only[Value.slice.injEq] at hv1
 obtain⟨rfl,_,rfl⟩:=hv1
 have jy:=hide hx1
 clear h2 h3 hx1
 cases hl:lhs.all nameB
 ·rw[Bool.and_false,Bool.false_and]
  have HL:=hide hl
  clear hl
  go_enter Tryz.func64,Tryz.ntmps64
  go_wp2
  go_loopg [13] lhs.length (fun g i wr=>∃(k:Nat),k<=lhs.length∧g=lhs.length-k∧i=.int .i64 k∧Below (w.heap.size+1) (w.alloc (.cells #[.slice b1 lhs.length c1,.slice b2 code.length c2,.string s,.slice b3 args.length c3] 48)) wr∧∀j (h:j<lhs.length),j<k->nameB lhs[j]=true)
  case atStart=>exact⟨0,Nat.zero_le _,by omega,rfl,Below.refl _ _,fun j _ h=>absurd h (Nat.not_lt_zero _)⟩
  case round =>
   obtain⟨k,hk,hg,rfl,jq,hall⟩:=hrel
   have HG:=hide hg
   have HA:=hide hall
   have yj:=hide jq
   have B1:Hid (Below w.heap.size w wr):=((Below.refl _ _).alloc (Nat.le_refl _) _).trans (jq.mono (Nat.le_succ _))
   have hz:=jq.size
   simp only[World.size_alloc] at hz
   have Au:w.heap.size<wr.heap.size:=by omega
   have k0:wr.cell? ⟨w.heap.size,0,none⟩=some (.slice b1 lhs.length c1):=by rw[jq.cell (p:=⟨w.heap.size,0,none⟩) (Nat.lt_succ_self _),World.cell?_alloc_at _ _ _ _ rfl];rfl
   have k1:wr.cell? ⟨w.heap.size,1,none⟩=some (.slice b2 code.length c2):=by rw[jq.cell (p:=⟨w.heap.size,1,none⟩) (Nat.lt_succ_self _),World.cell?_alloc_at _ _ _ _ rfl];rfl
   have k2:wr.cell? ⟨w.heap.size,2,none⟩=some (.string s):=by rw[jq.cell (p:=⟨w.heap.size,2,none⟩) (Nat.lt_succ_self _),World.cell?_alloc_at _ _ _ _ rfl];rfl
   have k3:wr.cell? ⟨w.heap.size,3,none⟩=some (.slice b3 args.length c3):=by rw[jq.cell (p:=⟨w.heap.size,3,none⟩) (Nat.lt_succ_self _),World.cell?_alloc_at _ _ _ _ rfl];rfl
   clear hg hall jq hz
   by_cases hlt:k<lhs.length
   ·obtain⟨b,o,cs,jr,_,hb,hcs,hc,hR⟩:=uh jy k hlt
    subst jr
    have hc:∀j (hj:j<cs.length),wr.cell? ⟨b,o+k*1+j,none⟩=some cs[j]:=fun j hj=>by rw[(uh B1).cell (p:=⟨b,_,none⟩) hb];exact hc j hj
    obtain⟨rfl,hsn⟩:=hR
    have c0:=hc 0 (by simp)
    simp only[Nat.mul_one,Nat.add_zero,List.getElem_cons_zero,List.getElem_cons_succ] at c0
    have HC:=hide (fun w=>Ah lhs[k] w hsn)
    clear hc hcs hsn
    cases hp:nameB lhs[k]
    ·go_wp2_with fail
     refine(uh HC _).mono ?_
     rintro e w2 ⟨rfl,hb2⟩
     rw[hp]
     go_wp2
     go_ret
     exact⟨rfl,(uh B1).trans (hb2.mono (uh B1).size)⟩
    ·have A':∀j (h:j<lhs.length),j<k+1->nameB lhs[j]=true:=by
      intro j h h1
      by_cases e:j=k
      ·subst e;exact hp
      ·exact uh HA j h (by omega)
     have HA':=hide A'
     clear A'
     go_wp2_with fail
     refine(uh HC _).mono ?_
     rintro e w2 ⟨rfl,hb2⟩
     rw[hp]
     go_wp2
     go_roundg (lhs.length-(k+1))
     case measure=>have:=uh HG;omega
     case rel=>exact⟨k+1,by omega,rfl,by go_num,(uh yj).trans (hb2.mono (by have:=(uh yj).size;simp at this;omega)),uh HA'⟩
   ·exfalso
    have:lhs.all nameB=true:=by
     rw[List.all_eq_true]
     intro x hx
     obtain⟨j,hj,rfl⟩:=List.getElem_of_mem hx
     exact uh HA j hj (by omega)
    rw[uh HL] at this
    cases this
 rw[Bool.and_true]
 have HL:=hide hl
 clear hl
 by_cases g1:lhs.length<1
 ·have d1:decide ((lhs.length:Int)<1)=true:=by rw[decide_eq_true_iff];omega
  have e:decide (1<=lhs.length∧lhs.length<=500∧args.length<=500)=false:=by rw[decide_eq_false_iff_not];omega
  rw[e,Bool.false_and]
  clear e
  go_enter Tryz.func64,Tryz.ntmps64
  go_wp2
  go_loopg [13] lhs.length (fun g i wr=>∃(k:Nat),k<=lhs.length∧g=lhs.length-k∧i=.int .i64 k∧Below (w.heap.size+1) (w.alloc (.cells #[.slice b1 lhs.length c1,.slice b2 code.length c2,.string s,.slice b3 args.length c3] 48)) wr∧∀j (h:j<lhs.length),j<k->nameB lhs[j]=true)
  case atStart=>exact⟨0,Nat.zero_le _,by omega,rfl,Below.refl _ _,fun j _ h=>absurd h (Nat.not_lt_zero _)⟩
  case round =>
   obtain⟨k,hk,hg,rfl,jq,hall⟩:=hrel
   have HG:=hide hg
   have HA:=hide hall
   have yj:=hide jq
   have B1:Hid (Below w.heap.size w wr):=((Below.refl _ _).alloc (Nat.le_refl _) _).trans (jq.mono (Nat.le_succ _))
   have hz:=jq.size
   simp only[World.size_alloc] at hz
   have Au:w.heap.size<wr.heap.size:=by omega
   have k0:wr.cell? ⟨w.heap.size,0,none⟩=some (.slice b1 lhs.length c1):=by rw[jq.cell (p:=⟨w.heap.size,0,none⟩) (Nat.lt_succ_self _),World.cell?_alloc_at _ _ _ _ rfl];rfl
   have k1:wr.cell? ⟨w.heap.size,1,none⟩=some (.slice b2 code.length c2):=by rw[jq.cell (p:=⟨w.heap.size,1,none⟩) (Nat.lt_succ_self _),World.cell?_alloc_at _ _ _ _ rfl];rfl
   have k2:wr.cell? ⟨w.heap.size,2,none⟩=some (.string s):=by rw[jq.cell (p:=⟨w.heap.size,2,none⟩) (Nat.lt_succ_self _),World.cell?_alloc_at _ _ _ _ rfl];rfl
   have k3:wr.cell? ⟨w.heap.size,3,none⟩=some (.slice b3 args.length c3):=by rw[jq.cell (p:=⟨w.heap.size,3,none⟩) (Nat.lt_succ_self _),World.cell?_alloc_at _ _ _ _ rfl];rfl
   clear hg hall jq hz
   by_cases hlt:k<lhs.length
   ·omega
   ·go_wp2
    go_ret
    exact⟨rfl,uh B1⟩
 have d1:decide ((lhs.length:Int)<1)=false:=by rw[decide_eq_false_iff_not];omega
 by_cases g2:500<lhs.length
 ·have d2:decide (500<(lhs.length:Int))=true:=by rw[decide_eq_true_iff];omega
  have e:decide (1<=lhs.length∧lhs.length<=500∧args.length<=500)=false:=by rw[decide_eq_false_iff_not];omega
  rw[e,Bool.false_and]
  clear e
  go_enter Tryz.func64,Tryz.ntmps64
  go_wp2
  go_loopg [13] lhs.length (fun g i wr=>∃(k:Nat),k<=lhs.length∧g=lhs.length-k∧i=.int .i64 k∧Below (w.heap.size+1) (w.alloc (.cells #[.slice b1 lhs.length c1,.slice b2 code.length c2,.string s,.slice b3 args.length c3] 48)) wr∧∀j (h:j<lhs.length),j<k->nameB lhs[j]=true)
  case atStart=>exact⟨0,Nat.zero_le _,by omega,rfl,Below.refl _ _,fun j _ h=>absurd h (Nat.not_lt_zero _)⟩
  case round =>
   obtain⟨k,hk,hg,rfl,jq,hall⟩:=hrel
   have HG:=hide hg
   have HA:=hide hall
   have yj:=hide jq
   have B1:Hid (Below w.heap.size w wr):=((Below.refl _ _).alloc (Nat.le_refl _) _).trans (jq.mono (Nat.le_succ _))
   have hz:=jq.size
   simp only[World.size_alloc] at hz
   have Au:w.heap.size<wr.heap.size:=by omega
   have k0:wr.cell? ⟨w.heap.size,0,none⟩=some (.slice b1 lhs.length c1):=by rw[jq.cell (p:=⟨w.heap.size,0,none⟩) (Nat.lt_succ_self _),World.cell?_alloc_at _ _ _ _ rfl];rfl
   have k1:wr.cell? ⟨w.heap.size,1,none⟩=some (.slice b2 code.length c2):=by rw[jq.cell (p:=⟨w.heap.size,1,none⟩) (Nat.lt_succ_self _),World.cell?_alloc_at _ _ _ _ rfl];rfl
   have k2:wr.cell? ⟨w.heap.size,2,none⟩=some (.string s):=by rw[jq.cell (p:=⟨w.heap.size,2,none⟩) (Nat.lt_succ_self _),World.cell?_alloc_at _ _ _ _ rfl];rfl
   have k3:wr.cell? ⟨w.heap.size,3,none⟩=some (.slice b3 args.length c3):=by rw[jq.cell (p:=⟨w.heap.size,3,none⟩) (Nat.lt_succ_self _),World.cell?_alloc_at _ _ _ _ rfl];rfl
   clear hg hall jq hz
   by_cases hlt:k<lhs.length
   ·obtain⟨b,o,cs,jr,_,hb,hcs,hc,hR⟩:=uh jy k hlt
    subst jr
    have hc:∀j (hj:j<cs.length),wr.cell? ⟨b,o+k*1+j,none⟩=some cs[j]:=fun j hj=>by rw[(uh B1).cell (p:=⟨b,_,none⟩) hb];exact hc j hj
    obtain⟨rfl,hsn⟩:=hR
    have c0:=hc 0 (by simp)
    simp only[Nat.mul_one,Nat.add_zero,List.getElem_cons_zero,List.getElem_cons_succ] at c0
    have HC:=hide (fun w=>Ah lhs[k] w hsn)
    clear hc hcs hsn
    have hp:nameB lhs[k]=true:=List.all_eq_true.1 (uh HL) _ (List.getElem_mem hlt)
    have A':∀j (h:j<lhs.length),j<k+1->nameB lhs[j]=true:=by
     intro j h h1
     by_cases e:j=k
     ·subst e;exact hp
     ·exact uh HA j h (by omega)
    have HA':=hide A'
    clear A'
    go_wp2_with fail
    refine(uh HC _).mono ?_
    rintro e w2 ⟨rfl,hb2⟩
    rw[hp]
    go_wp2
    go_roundg (lhs.length-(k+1))
    case measure=>have:=uh HG;omega
    case rel=>exact⟨k+1,by omega,rfl,by go_num,(uh yj).trans (hb2.mono (by have:=(uh yj).size;simp at this;omega)),uh HA'⟩
   ·go_wp2
    go_ret
    exact⟨rfl,uh B1⟩
 have d2:decide (500<(lhs.length:Int))=false:=by rw[decide_eq_false_iff_not];omega
 by_cases g3:500<args.length
 ·have d3:decide (500<(args.length:Int))=true:=by rw[decide_eq_true_iff];omega
  have e:decide (1<=lhs.length∧lhs.length<=500∧args.length<=500)=false:=by rw[decide_eq_false_iff_not];omega
  rw[e,Bool.false_and]
  clear e
  go_enter Tryz.func64,Tryz.ntmps64
  go_wp2
  go_loopg [13] lhs.length (fun g i wr=>∃(k:Nat),k<=lhs.length∧g=lhs.length-k∧i=.int .i64 k∧Below (w.heap.size+1) (w.alloc (.cells #[.slice b1 lhs.length c1,.slice b2 code.length c2,.string s,.slice b3 args.length c3] 48)) wr∧∀j (h:j<lhs.length),j<k->nameB lhs[j]=true)
  case atStart=>exact⟨0,Nat.zero_le _,by omega,rfl,Below.refl _ _,fun j _ h=>absurd h (Nat.not_lt_zero _)⟩
  case round =>
   obtain⟨k,hk,hg,rfl,jq,hall⟩:=hrel
   have HG:=hide hg
   have HA:=hide hall
   have yj:=hide jq
   have B1:Hid (Below w.heap.size w wr):=((Below.refl _ _).alloc (Nat.le_refl _) _).trans (jq.mono (Nat.le_succ _))
   have hz:=jq.size
   simp only[World.size_alloc] at hz
   have Au:w.heap.size<wr.heap.size:=by omega
   have k0:wr.cell? ⟨w.heap.size,0,none⟩=some (.slice b1 lhs.length c1):=by rw[jq.cell (p:=⟨w.heap.size,0,none⟩) (Nat.lt_succ_self _),World.cell?_alloc_at _ _ _ _ rfl];rfl
   have k1:wr.cell? ⟨w.heap.size,1,none⟩=some (.slice b2 code.length c2):=by rw[jq.cell (p:=⟨w.heap.size,1,none⟩) (Nat.lt_succ_self _),World.cell?_alloc_at _ _ _ _ rfl];rfl
   have k2:wr.cell? ⟨w.heap.size,2,none⟩=some (.string s):=by rw[jq.cell (p:=⟨w.heap.size,2,none⟩) (Nat.lt_succ_self _),World.cell?_alloc_at _ _ _ _ rfl];rfl
   have k3:wr.cell? ⟨w.heap.size,3,none⟩=some (.slice b3 args.length c3):=by rw[jq.cell (p:=⟨w.heap.size,3,none⟩) (Nat.lt_succ_self _),World.cell?_alloc_at _ _ _ _ rfl];rfl
   clear hg hall jq hz
   by_cases hlt:k<lhs.length
   ·obtain⟨b,o,cs,jr,_,hb,hcs,hc,hR⟩:=uh jy k hlt
    subst jr
    have hc:∀j (hj:j<cs.length),wr.cell? ⟨b,o+k*1+j,none⟩=some cs[j]:=fun j hj=>by rw[(uh B1).cell (p:=⟨b,_,none⟩) hb];exact hc j hj
    obtain⟨rfl,hsn⟩:=hR
    have c0:=hc 0 (by simp)
    simp only[Nat.mul_one,Nat.add_zero,List.getElem_cons_zero,List.getElem_cons_succ] at c0
    have HC:=hide (fun w=>Ah lhs[k] w hsn)
    clear hc hcs hsn
    have hp:nameB lhs[k]=true:=List.all_eq_true.1 (uh HL) _ (List.getElem_mem hlt)
    have A':∀j (h:j<lhs.length),j<k+1->nameB lhs[j]=true:=by
     intro j h h1
     by_cases e:j=k
     ·subst e;exact hp
     ·exact uh HA j h (by omega)
    have HA':=hide A'
    clear A'
    go_wp2_with fail
    refine(uh HC _).mono ?_
    rintro e w2 ⟨rfl,hb2⟩
    rw[hp]
    go_wp2
    go_roundg (lhs.length-(k+1))
    case measure=>have:=uh HG;omega
    case rel=>exact⟨k+1,by omega,rfl,by go_num,(uh yj).trans (hb2.mono (by have:=(uh yj).size;simp at this;omega)),uh HA'⟩
   ·go_wp2
    go_ret
    exact⟨rfl,uh B1⟩
 have d3:decide (500<(args.length:Int))=false:=by rw[decide_eq_false_iff_not];omega
 have e:decide (1<=lhs.length∧lhs.length<=500∧args.length<=500)=true:=by rw[decide_eq_true_iff];omega
 rw[e,Bool.true_and]
 clear e
 by_cases g4:s.size=0
 ·rw[if_pos g4]
  have d4:=Aa s g4
  have Ij:=xg s g4
  clear g4
  by_cases g5:lhs.length=1
  case neg =>
   have e:decide (lhs.length=1∧args.length=0)=false:=by rw[decide_eq_false_iff_not];omega
   rw[e,Bool.false_and]
   have d5:((lhs.length:Int) != 1)=true:=by rw[bne_iff_ne];omega
   clear e
   go_enter Tryz.func64,Tryz.ntmps64
   go_wp2
   go_loopg [13] lhs.length (fun g i wr=>∃(k:Nat),k<=lhs.length∧g=lhs.length-k∧i=.int .i64 k∧Below (w.heap.size+1) (w.alloc (.cells #[.slice b1 lhs.length c1,.slice b2 code.length c2,.string s,.slice b3 args.length c3] 48)) wr∧∀j (h:j<lhs.length),j<k->nameB lhs[j]=true)
   case atStart=>exact⟨0,Nat.zero_le _,by omega,rfl,Below.refl _ _,fun j _ h=>absurd h (Nat.not_lt_zero _)⟩
   case round =>
    obtain⟨k,hk,hg,rfl,jq,hall⟩:=hrel
    have HG:=hide hg
    have HA:=hide hall
    have yj:=hide jq
    have B1:Hid (Below w.heap.size w wr):=((Below.refl _ _).alloc (Nat.le_refl _) _).trans (jq.mono (Nat.le_succ _))
    have hz:=jq.size
    simp only[World.size_alloc] at hz
    have Au:w.heap.size<wr.heap.size:=by omega
    have k0:wr.cell? ⟨w.heap.size,0,none⟩=some (.slice b1 lhs.length c1):=by rw[jq.cell (p:=⟨w.heap.size,0,none⟩) (Nat.lt_succ_self _),World.cell?_alloc_at _ _ _ _ rfl];rfl
    have k1:wr.cell? ⟨w.heap.size,1,none⟩=some (.slice b2 code.length c2):=by rw[jq.cell (p:=⟨w.heap.size,1,none⟩) (Nat.lt_succ_self _),World.cell?_alloc_at _ _ _ _ rfl];rfl
    have k2:wr.cell? ⟨w.heap.size,2,none⟩=some (.string s):=by rw[jq.cell (p:=⟨w.heap.size,2,none⟩) (Nat.lt_succ_self _),World.cell?_alloc_at _ _ _ _ rfl];rfl
    have k3:wr.cell? ⟨w.heap.size,3,none⟩=some (.slice b3 args.length c3):=by rw[jq.cell (p:=⟨w.heap.size,3,none⟩) (Nat.lt_succ_self _),World.cell?_alloc_at _ _ _ _ rfl];rfl
    clear hg hall jq hz
    by_cases hlt:k<lhs.length
    ·obtain⟨b,o,cs,jr,_,hb,hcs,hc,hR⟩:=uh jy k hlt
     subst jr
     have hc:∀j (hj:j<cs.length),wr.cell? ⟨b,o+k*1+j,none⟩=some cs[j]:=fun j hj=>by rw[(uh B1).cell (p:=⟨b,_,none⟩) hb];exact hc j hj
     obtain⟨rfl,hsn⟩:=hR
     have c0:=hc 0 (by simp)
     simp only[Nat.mul_one,Nat.add_zero,List.getElem_cons_zero,List.getElem_cons_succ] at c0
     have HC:=hide (fun w=>Ah lhs[k] w hsn)
     clear hc hcs hsn
     have hp:nameB lhs[k]=true:=List.all_eq_true.1 (uh HL) _ (List.getElem_mem hlt)
     have A':∀j (h:j<lhs.length),j<k+1->nameB lhs[j]=true:=by
      intro j h h1
      by_cases e:j=k
      ·subst e;exact hp
      ·exact uh HA j h (by omega)
     have HA':=hide A'
     clear A'
     go_wp2_with fail
     refine(uh HC _).mono ?_
     rintro e w2 ⟨rfl,hb2⟩
     rw[hp]
     go_wp2
     go_roundg (lhs.length-(k+1))
     case measure=>have:=uh HG;omega
     case rel=>exact⟨k+1,by omega,rfl,by go_num,(uh yj).trans (hb2.mono (by have:=(uh yj).size;simp at this;omega)),uh HA'⟩
    ·go_wp2
     go_ret
     exact⟨rfl,uh B1⟩
  have d5:((lhs.length:Int) != 1)=false:=by rw[bne_eq_false_iff_eq];omega
  by_cases g6:args.length=0
  case neg =>
   have e:decide (lhs.length=1∧args.length=0)=false:=by rw[decide_eq_false_iff_not];omega
   rw[e,Bool.false_and]
   have d6:((args.length:Int) != 0)=true:=by rw[bne_iff_ne];omega
   clear e g5
   go_enter Tryz.func64,Tryz.ntmps64
   go_wp2
   go_loopg [13] lhs.length (fun g i wr=>∃(k:Nat),k<=lhs.length∧g=lhs.length-k∧i=.int .i64 k∧Below (w.heap.size+1) (w.alloc (.cells #[.slice b1 lhs.length c1,.slice b2 code.length c2,.string s,.slice b3 args.length c3] 48)) wr∧∀j (h:j<lhs.length),j<k->nameB lhs[j]=true)
   case atStart=>exact⟨0,Nat.zero_le _,by omega,rfl,Below.refl _ _,fun j _ h=>absurd h (Nat.not_lt_zero _)⟩
   case round =>
    obtain⟨k,hk,hg,rfl,jq,hall⟩:=hrel
    have HG:=hide hg
    have HA:=hide hall
    have yj:=hide jq
    have B1:Hid (Below w.heap.size w wr):=((Below.refl _ _).alloc (Nat.le_refl _) _).trans (jq.mono (Nat.le_succ _))
    have hz:=jq.size
    simp only[World.size_alloc] at hz
    have Au:w.heap.size<wr.heap.size:=by omega
    have k0:wr.cell? ⟨w.heap.size,0,none⟩=some (.slice b1 lhs.length c1):=by rw[jq.cell (p:=⟨w.heap.size,0,none⟩) (Nat.lt_succ_self _),World.cell?_alloc_at _ _ _ _ rfl];rfl
    have k1:wr.cell? ⟨w.heap.size,1,none⟩=some (.slice b2 code.length c2):=by rw[jq.cell (p:=⟨w.heap.size,1,none⟩) (Nat.lt_succ_self _),World.cell?_alloc_at _ _ _ _ rfl];rfl
    have k2:wr.cell? ⟨w.heap.size,2,none⟩=some (.string s):=by rw[jq.cell (p:=⟨w.heap.size,2,none⟩) (Nat.lt_succ_self _),World.cell?_alloc_at _ _ _ _ rfl];rfl
    have k3:wr.cell? ⟨w.heap.size,3,none⟩=some (.slice b3 args.length c3):=by rw[jq.cell (p:=⟨w.heap.size,3,none⟩) (Nat.lt_succ_self _),World.cell?_alloc_at _ _ _ _ rfl];rfl
    clear hg hall jq hz
    by_cases hlt:k<lhs.length
    ·obtain⟨b,o,cs,jr,_,hb,hcs,hc,hR⟩:=uh jy k hlt
     subst jr
     have hc:∀j (hj:j<cs.length),wr.cell? ⟨b,o+k*1+j,none⟩=some cs[j]:=fun j hj=>by rw[(uh B1).cell (p:=⟨b,_,none⟩) hb];exact hc j hj
     obtain⟨rfl,hsn⟩:=hR
     have c0:=hc 0 (by simp)
     simp only[Nat.mul_one,Nat.add_zero,List.getElem_cons_zero,List.getElem_cons_succ] at c0
     have HC:=hide (fun w=>Ah lhs[k] w hsn)
     clear hc hcs hsn
     have hp:nameB lhs[k]=true:=List.all_eq_true.1 (uh HL) _ (List.getElem_mem hlt)
     have A':∀j (h:j<lhs.length),j<k+1->nameB lhs[j]=true:=by
      intro j h h1
      by_cases e:j=k
      ·subst e;exact hp
      ·exact uh HA j h (by omega)
     have HA':=hide A'
     clear A'
     go_wp2_with fail
     refine(uh HC _).mono ?_
     rintro e w2 ⟨rfl,hb2⟩
     rw[hp]
     go_wp2
     go_roundg (lhs.length-(k+1))
     case measure=>have:=uh HG;omega
     case rel=>exact⟨k+1,by omega,rfl,by go_num,(uh yj).trans (hb2.mono (by have:=(uh yj).size;simp at this;omega)),uh HA'⟩
    ·go_wp2
     go_ret
     exact⟨rfl,uh B1⟩
  have d6:((args.length:Int) != 0)=false:=by rw[bne_eq_false_iff_eq];omega
  have e:decide (lhs.length=1∧args.length=0)=true:=by rw[decide_eq_true_iff];omega
  rw[e,Bool.true_and]
  clear e g5 g6
  go_enter Tryz.func64,Tryz.ntmps64
  go_wp2
  go_loopg [13] lhs.length (fun g i wr=>∃(k:Nat),k<=lhs.length∧g=lhs.length-k∧i=.int .i64 k∧Below (w.heap.size+1) (w.alloc (.cells #[.slice b1 lhs.length c1,.slice b2 code.length c2,.string s,.slice b3 args.length c3] 48)) wr∧∀j (h:j<lhs.length),j<k->nameB lhs[j]=true)
  case atStart=>exact⟨0,Nat.zero_le _,by omega,rfl,Below.refl _ _,fun j _ h=>absurd h (Nat.not_lt_zero _)⟩
  case round =>
   obtain⟨k,hk,hg,rfl,jq,hall⟩:=hrel
   have HG:=hide hg
   have HA:=hide hall
   have yj:=hide jq
   have B1:Hid (Below w.heap.size w wr):=((Below.refl _ _).alloc (Nat.le_refl _) _).trans (jq.mono (Nat.le_succ _))
   have hz:=jq.size
   simp only[World.size_alloc] at hz
   have Au:w.heap.size<wr.heap.size:=by omega
   have k0:wr.cell? ⟨w.heap.size,0,none⟩=some (.slice b1 lhs.length c1):=by rw[jq.cell (p:=⟨w.heap.size,0,none⟩) (Nat.lt_succ_self _),World.cell?_alloc_at _ _ _ _ rfl];rfl
   have k1:wr.cell? ⟨w.heap.size,1,none⟩=some (.slice b2 code.length c2):=by rw[jq.cell (p:=⟨w.heap.size,1,none⟩) (Nat.lt_succ_self _),World.cell?_alloc_at _ _ _ _ rfl];rfl
   have k2:wr.cell? ⟨w.heap.size,2,none⟩=some (.string s):=by rw[jq.cell (p:=⟨w.heap.size,2,none⟩) (Nat.lt_succ_self _),World.cell?_alloc_at _ _ _ _ rfl];rfl
   have k3:wr.cell? ⟨w.heap.size,3,none⟩=some (.slice b3 args.length c3):=by rw[jq.cell (p:=⟨w.heap.size,3,none⟩) (Nat.lt_succ_self _),World.cell?_alloc_at _ _ _ _ rfl];rfl
   clear hg hall jq hz
   by_cases hlt:k<lhs.length
   ·obtain⟨b,o,cs,jr,_,hb,hcs,hc,hR⟩:=uh jy k hlt
    subst jr
    have hc:∀j (hj:j<cs.length),wr.cell? ⟨b,o+k*1+j,none⟩=some cs[j]:=fun j hj=>by rw[(uh B1).cell (p:=⟨b,_,none⟩) hb];exact hc j hj
    obtain⟨rfl,hsn⟩:=hR
    have c0:=hc 0 (by simp)
    simp only[Nat.mul_one,Nat.add_zero,List.getElem_cons_zero,List.getElem_cons_succ] at c0
    have HC:=hide (fun w=>Ah lhs[k] w hsn)
    clear hc hcs hsn
    have hp:nameB lhs[k]=true:=List.all_eq_true.1 (uh HL) _ (List.getElem_mem hlt)
    have A':∀j (h:j<lhs.length),j<k+1->nameB lhs[j]=true:=by
     intro j h h1
     by_cases e:j=k
     ·subst e;exact hp
     ·exact uh HA j h (by omega)
    have HA':=hide A'
    clear A'
    go_wp2_with fail
    refine(uh HC _).mono ?_
    rintro e w2 ⟨rfl,hb2⟩
    rw[hp]
    go_wp2
    go_roundg (lhs.length-(k+1))
    case measure=>have:=uh HG;omega
    case rel=>exact⟨k+1,by omega,rfl,by go_num,(uh yj).trans (hb2.mono (by have:=(uh yj).size;simp at this;omega)),uh HA'⟩
   ·rename World=>w1
    have HE0:=hide ((uh H2).stays je (uh B1))
    clear HA HG
    go_wp2
    go_loopg [67] 1 (fun g i wr=>∃(m:Nat),m<=1∧g=1-m∧i=.int .i64 m∧Below (w1.heap.size+1) (w1.alloc (.cells #[.slice b2 code.length c2] 45)) wr∧(0<m->Df code=true))
    case atStart=>exact⟨0,Nat.zero_le _,rfl,rfl,Below.refl _ _,fun h=>absurd h (Nat.lt_irrefl _)⟩
    case round =>
     obtain⟨m,hm,hgm,rfl,Hg,aes⟩:=hrel
     rename World=>wv
     have Hy:=hide hgm
     have HAM:=hide aes
     have Az:=hide Hg
     have B2:Hid (Below w.heap.size w wv):=(uh B1).trans (((Below.refl _ _).alloc (uh B1).size _).trans (Hg.mono (by have:=(uh B1).size;omega)))
     obtain⟨hc2,hf2⟩:=pq (W:=w1.alloc (.cells #[.slice b2 code.length c2] 45)) (by simpa using Hg)
     have hz2:=Hg.size
     try simp only[World.size_alloc] at hz2 hc2 hf2
     have afl:w1.heap.size<wv.heap.size:=by omega
     have HE:Hid (bf 3 32 jw 0 wv (.slice b2 code.length c2) code):=(uh HE0).stays je (((Below.refl _ _).alloc (Nat.le_refl _) _).trans (Hg.mono (Nat.le_succ _)))
     obtain⟨_,_,I8,_,_,hex⟩:=uh HE
     simp only[Value.slice.injEq] at I8
     obtain⟨rfl,_,rfl⟩:=I8
     have HEX:=hide hex
     clear hgm aes Hg hz2 hex
     by_cases Aj:m<1
     ·have hm0:m=0:=by omega
      subst hm0
      cases hsc:scB code
      ·have hcd:Df code=false:=by rw[←Qm,hsc];rfl
       have HF:=hide hcd
       clear hcd
       go_wp2_with fail
       refine(Uh code _ _ (uh HE)).mono ?_
       rintro e w3 ⟨rfl,hb3⟩
       rw[hsc]
       go_wp2
       go_ret
       exact⟨gu (uh HF).symm,(uh B2).trans (hb3.mono (uh B2).size)⟩
      ·go_wp2_with fail
       refine(Uh code _ _ (uh HE)).mono ?_
       rintro e w3 ⟨rfl,hb3⟩
       rw[hsc]
       have B3:=hide ((uh B2).trans (hb3.mono (uh B2).size))
       have HB3:=hide hb3
       clear hb3
       go_wp2
       go_loopg [76] code.length (fun g i wr=>∃(q:Nat),q<=code.length∧g=code.length-q∧i=.int .i64 q∧Below w3.heap.size w3 wr∧∀j (h:j<code.length),j<q->(code[j].op == 25)=false)
       case atStart=>exact⟨0,Nat.zero_le _,by omega,rfl,Below.refl _ _,fun j _ h=>absurd h (Nat.not_lt_zero _)⟩
       case round =>
        obtain⟨q,hq,hg3,rfl,Ci,Lu⟩:=hrel
        have Jg:=hide hg3
        have Vd:=hide Lu
        have HBV:Hid (Below wv.heap.size wv wr):=(uh HB3).trans (Ci.mono (uh HB3).size)
        clear hg3 Lu
        by_cases hlt3:q<code.length
        ·obtain⟨b,o,cs,jr,_,hb,hcs,hc,hR⟩:=uh HEX q hlt3
         subst jr
         have hc:∀j (hj:j<cs.length),wr.cell? ⟨b,o+q*3+j,none⟩=some cs[j]:=fun j hj=>by rw[(uh HBV).cell (p:=⟨b,_,none⟩) hb];exact hc j hj
         obtain⟨rfl,hsn,ho,hvl⟩:=hR
         have e0:=hc 0 (by simp)
         have e1:=hc 1 (by simp)
         have e2:=hc 2 (by simp)
         simp only[Nat.mul_one,Nat.add_zero,List.getElem_cons_zero,List.getElem_cons_succ] at e0 e1 e2
         clear hc hcs hsn ho hvl
         cases h25:(code[q].op == 25)
         ·have A':∀j (h:j<code.length),j<q+1->(code[j].op == 25)=false:=by
           intro j h h1
           by_cases e:j=q
           ·subst e;exact h25
           ·exact uh Vd j h (by omega)
          have HA':=hide A'
          clear A'
          go_wp2
          go_roundg (code.length-(q+1))
          case measure=>have:=uh Jg;omega
          case rel=>exact⟨q+1,by omega,rfl,by go_num,Ci.trans ((Below.refl _ _).alloc Ci.size _),uh HA'⟩
         ·have hcd:Df code=false:=by
           rw[←Qm,Bool.and_eq_false_iff]
           right
           rw[List.all_eq_false]
           exact⟨code[q],List.getElem_mem hlt3,by rw[h25];decide⟩
          have HF:=hide hcd
          clear hcd
          go_wp2
          go_ret
          exact⟨gu (uh HF).symm,(uh B3).trans ((Ci.mono (Nat.le_refl _)).trans ((Below.refl _ _).alloc Ci.size _) |>.mono (uh B3).size)⟩
        ·have hcd:Df code=true:=by
          rw[←Qm,hsc,Bool.true_and,List.all_eq_true]
          intro x hx
          obtain⟨j,hj,rfl⟩:=List.getElem_of_mem hx
          rw[uh Vd j hj (by omega)]
          rfl
         have B4:Hid (Below w.heap.size w wr):=(uh B3).trans (Ci.mono (uh B3).size)
         clear Ci
         go_wp2
         go_roundg (1-(0+1))
         case measure=>have:=uh Hy;omega
         case rel=>exact⟨1,Nat.le_refl _,rfl,rfl,(uh Az).trans ((uh HBV).mono (by have:=(uh Az).size;simp at this;omega)),fun _=>hcd⟩
     ·have hm1:0<m:=by omega
      have HF:=hide (uh HAM hm1)
      clear HE HEX
      go_wp2
      go_ret
      exact⟨gu (uh HF).symm,uh B2⟩
 ·rw[if_neg g4]
  have d4:=Ae s g4
  have Ij:=vk s g4
  clear g4
  cases hnm:nameB s
  ·rw[Bool.false_and,Bool.false_and]
   go_enter Tryz.func64,Tryz.ntmps64
   go_wp2
   go_loopg [13] lhs.length (fun g i wr=>∃(k:Nat),k<=lhs.length∧g=lhs.length-k∧i=.int .i64 k∧Below (w.heap.size+1) (w.alloc (.cells #[.slice b1 lhs.length c1,.slice b2 code.length c2,.string s,.slice b3 args.length c3] 48)) wr∧∀j (h:j<lhs.length),j<k->nameB lhs[j]=true)
   case atStart=>exact⟨0,Nat.zero_le _,by omega,rfl,Below.refl _ _,fun j _ h=>absurd h (Nat.not_lt_zero _)⟩
   case round =>
    obtain⟨k,hk,hg,rfl,jq,hall⟩:=hrel
    have HG:=hide hg
    have HA:=hide hall
    have yj:=hide jq
    have B1:Hid (Below w.heap.size w wr):=((Below.refl _ _).alloc (Nat.le_refl _) _).trans (jq.mono (Nat.le_succ _))
    have hz:=jq.size
    simp only[World.size_alloc] at hz
    have Au:w.heap.size<wr.heap.size:=by omega
    have k0:wr.cell? ⟨w.heap.size,0,none⟩=some (.slice b1 lhs.length c1):=by rw[jq.cell (p:=⟨w.heap.size,0,none⟩) (Nat.lt_succ_self _),World.cell?_alloc_at _ _ _ _ rfl];rfl
    have k1:wr.cell? ⟨w.heap.size,1,none⟩=some (.slice b2 code.length c2):=by rw[jq.cell (p:=⟨w.heap.size,1,none⟩) (Nat.lt_succ_self _),World.cell?_alloc_at _ _ _ _ rfl];rfl
    have k2:wr.cell? ⟨w.heap.size,2,none⟩=some (.string s):=by rw[jq.cell (p:=⟨w.heap.size,2,none⟩) (Nat.lt_succ_self _),World.cell?_alloc_at _ _ _ _ rfl];rfl
    have k3:wr.cell? ⟨w.heap.size,3,none⟩=some (.slice b3 args.length c3):=by rw[jq.cell (p:=⟨w.heap.size,3,none⟩) (Nat.lt_succ_self _),World.cell?_alloc_at _ _ _ _ rfl];rfl
    clear hg hall jq hz
    by_cases hlt:k<lhs.length
    ·obtain⟨b,o,cs,jr,_,hb,hcs,hc,hR⟩:=uh jy k hlt
     subst jr
     have hc:∀j (hj:j<cs.length),wr.cell? ⟨b,o+k*1+j,none⟩=some cs[j]:=fun j hj=>by rw[(uh B1).cell (p:=⟨b,_,none⟩) hb];exact hc j hj
     obtain⟨rfl,hsn⟩:=hR
     have c0:=hc 0 (by simp)
     simp only[Nat.mul_one,Nat.add_zero,List.getElem_cons_zero,List.getElem_cons_succ] at c0
     have HC:=hide (fun w=>Ah lhs[k] w hsn)
     clear hc hcs hsn
     have hp:nameB lhs[k]=true:=List.all_eq_true.1 (uh HL) _ (List.getElem_mem hlt)
     have A':∀j (h:j<lhs.length),j<k+1->nameB lhs[j]=true:=by
      intro j h h1
      by_cases e:j=k
      ·subst e;exact hp
      ·exact uh HA j h (by omega)
     have HA':=hide A'
     clear A'
     go_wp2_with fail
     refine(uh HC _).mono ?_
     rintro e w2 ⟨rfl,hb2⟩
     rw[hp]
     go_wp2
     go_roundg (lhs.length-(k+1))
     case measure=>have:=uh HG;omega
     case rel=>exact⟨k+1,by omega,rfl,by go_num,(uh yj).trans (hb2.mono (by have:=(uh yj).size;simp at this;omega)),uh HA'⟩
    ·go_wp2_with fail
     refine(Ah s _ hs).mono ?_
     rintro e w2 ⟨rfl,hb2⟩
     rw[hnm]
     go_wp2
     go_ret
     exact⟨rfl,(uh B1).trans (hb2.mono (uh B1).size)⟩
  rw[Bool.true_and]
  by_cases g5:code.length=0
  case neg =>
   have e:decide (code.length=0)=false:=by simpa using g5
   rw[e,Bool.false_and]
   have d5:((code.length:Int) != 0)=true:=by rw[bne_iff_ne];omega
   clear e
   go_enter Tryz.func64,Tryz.ntmps64
   go_wp2
   go_loopg [13] lhs.length (fun g i wr=>∃(k:Nat),k<=lhs.length∧g=lhs.length-k∧i=.int .i64 k∧Below (w.heap.size+1) (w.alloc (.cells #[.slice b1 lhs.length c1,.slice b2 code.length c2,.string s,.slice b3 args.length c3] 48)) wr∧∀j (h:j<lhs.length),j<k->nameB lhs[j]=true)
   case atStart=>exact⟨0,Nat.zero_le _,by omega,rfl,Below.refl _ _,fun j _ h=>absurd h (Nat.not_lt_zero _)⟩
   case round =>
    obtain⟨k,hk,hg,rfl,jq,hall⟩:=hrel
    have HG:=hide hg
    have HA:=hide hall
    have yj:=hide jq
    have B1:Hid (Below w.heap.size w wr):=((Below.refl _ _).alloc (Nat.le_refl _) _).trans (jq.mono (Nat.le_succ _))
    have hz:=jq.size
    simp only[World.size_alloc] at hz
    have Au:w.heap.size<wr.heap.size:=by omega
    have k0:wr.cell? ⟨w.heap.size,0,none⟩=some (.slice b1 lhs.length c1):=by rw[jq.cell (p:=⟨w.heap.size,0,none⟩) (Nat.lt_succ_self _),World.cell?_alloc_at _ _ _ _ rfl];rfl
    have k1:wr.cell? ⟨w.heap.size,1,none⟩=some (.slice b2 code.length c2):=by rw[jq.cell (p:=⟨w.heap.size,1,none⟩) (Nat.lt_succ_self _),World.cell?_alloc_at _ _ _ _ rfl];rfl
    have k2:wr.cell? ⟨w.heap.size,2,none⟩=some (.string s):=by rw[jq.cell (p:=⟨w.heap.size,2,none⟩) (Nat.lt_succ_self _),World.cell?_alloc_at _ _ _ _ rfl];rfl
    have k3:wr.cell? ⟨w.heap.size,3,none⟩=some (.slice b3 args.length c3):=by rw[jq.cell (p:=⟨w.heap.size,3,none⟩) (Nat.lt_succ_self _),World.cell?_alloc_at _ _ _ _ rfl];rfl
    clear hg hall jq hz
    by_cases hlt:k<lhs.length
    ·obtain⟨b,o,cs,jr,_,hb,hcs,hc,hR⟩:=uh jy k hlt
     subst jr
     have hc:∀j (hj:j<cs.length),wr.cell? ⟨b,o+k*1+j,none⟩=some cs[j]:=fun j hj=>by rw[(uh B1).cell (p:=⟨b,_,none⟩) hb];exact hc j hj
     obtain⟨rfl,hsn⟩:=hR
     have c0:=hc 0 (by simp)
     simp only[Nat.mul_one,Nat.add_zero,List.getElem_cons_zero,List.getElem_cons_succ] at c0
     have HC:=hide (fun w=>Ah lhs[k] w hsn)
     clear hc hcs hsn
     have hp:nameB lhs[k]=true:=List.all_eq_true.1 (uh HL) _ (List.getElem_mem hlt)
     have A':∀j (h:j<lhs.length),j<k+1->nameB lhs[j]=true:=by
      intro j h h1
      by_cases e:j=k
      ·subst e;exact hp
      ·exact uh HA j h (by omega)
     have HA':=hide A'
     clear A'
     go_wp2_with fail
     refine(uh HC _).mono ?_
     rintro e w2 ⟨rfl,hb2⟩
     rw[hp]
     go_wp2
     go_roundg (lhs.length-(k+1))
     case measure=>have:=uh HG;omega
     case rel=>exact⟨k+1,by omega,rfl,by go_num,(uh yj).trans (hb2.mono (by have:=(uh yj).size;simp at this;omega)),uh HA'⟩
    ·rename World=>w1
     go_wp2_with fail
     refine(Ah s _ hs).mono ?_
     rintro e w2 ⟨rfl,hb⟩
     obtain⟨hc2,hf2⟩:=pq hb
     have hz:=hb.size
     have B2:Hid (Below w.heap.size w w2):=(uh B1).trans (hb.mono (uh B1).size)
     try simp only[World.size_alloc] at hz hc2 hf2
     have Rl:w.heap.size<w2.heap.size:=by first|omega|(simp at hz;omega)
     clear hb hz
     rw[hnm]
     go_wp2
     go_ret
     exact⟨rfl,uh B2⟩
  have e:decide (code.length=0)=true:=by simpa using g5
  rw[e,Bool.true_and]
  have d5:((code.length:Int) != 0)=false:=by rw[bne_eq_false_iff_eq];omega
  clear e g5
  go_enter Tryz.func64,Tryz.ntmps64
  go_wp2
  go_loopg [13] lhs.length (fun g i wr=>∃(k:Nat),k<=lhs.length∧g=lhs.length-k∧i=.int .i64 k∧Below (w.heap.size+1) (w.alloc (.cells #[.slice b1 lhs.length c1,.slice b2 code.length c2,.string s,.slice b3 args.length c3] 48)) wr∧∀j (h:j<lhs.length),j<k->nameB lhs[j]=true)
  case atStart=>exact⟨0,Nat.zero_le _,by omega,rfl,Below.refl _ _,fun j _ h=>absurd h (Nat.not_lt_zero _)⟩
  case round =>
   obtain⟨k,hk,hg,rfl,jq,hall⟩:=hrel
   have HG:=hide hg
   have HA:=hide hall
   have yj:=hide jq
   have B1:Hid (Below w.heap.size w wr):=((Below.refl _ _).alloc (Nat.le_refl _) _).trans (jq.mono (Nat.le_succ _))
   have hz:=jq.size
   simp only[World.size_alloc] at hz
   have Au:w.heap.size<wr.heap.size:=by omega
   have k0:wr.cell? ⟨w.heap.size,0,none⟩=some (.slice b1 lhs.length c1):=by rw[jq.cell (p:=⟨w.heap.size,0,none⟩) (Nat.lt_succ_self _),World.cell?_alloc_at _ _ _ _ rfl];rfl
   have k1:wr.cell? ⟨w.heap.size,1,none⟩=some (.slice b2 code.length c2):=by rw[jq.cell (p:=⟨w.heap.size,1,none⟩) (Nat.lt_succ_self _),World.cell?_alloc_at _ _ _ _ rfl];rfl
   have k2:wr.cell? ⟨w.heap.size,2,none⟩=some (.string s):=by rw[jq.cell (p:=⟨w.heap.size,2,none⟩) (Nat.lt_succ_self _),World.cell?_alloc_at _ _ _ _ rfl];rfl
   have k3:wr.cell? ⟨w.heap.size,3,none⟩=some (.slice b3 args.length c3):=by rw[jq.cell (p:=⟨w.heap.size,3,none⟩) (Nat.lt_succ_self _),World.cell?_alloc_at _ _ _ _ rfl];rfl
   clear hg hall jq hz
   by_cases hlt:k<lhs.length
   ·obtain⟨b,o,cs,jr,_,hb,hcs,hc,hR⟩:=uh jy k hlt
    subst jr
    have hc:∀j (hj:j<cs.length),wr.cell? ⟨b,o+k*1+j,none⟩=some cs[j]:=fun j hj=>by rw[(uh B1).cell (p:=⟨b,_,none⟩) hb];exact hc j hj
    obtain⟨rfl,hsn⟩:=hR
    have c0:=hc 0 (by simp)
    simp only[Nat.mul_one,Nat.add_zero,List.getElem_cons_zero,List.getElem_cons_succ] at c0
    have HC:=hide (fun w=>Ah lhs[k] w hsn)
    clear hc hcs hsn
    have hp:nameB lhs[k]=true:=List.all_eq_true.1 (uh HL) _ (List.getElem_mem hlt)
    have A':∀j (h:j<lhs.length),j<k+1->nameB lhs[j]=true:=by
     intro j h h1
     by_cases e:j=k
     ·subst e;exact hp
     ·exact uh HA j h (by omega)
    have HA':=hide A'
    clear A'
    go_wp2_with fail
    refine(uh HC _).mono ?_
    rintro e w2 ⟨rfl,hb2⟩
    rw[hp]
    go_wp2
    go_roundg (lhs.length-(k+1))
    case measure=>have:=uh HG;omega
    case rel=>exact⟨k+1,by omega,rfl,by go_num,(uh yj).trans (hb2.mono (by have:=(uh yj).size;simp at this;omega)),uh HA'⟩
   ·rename World=>w1
    clear HA HG
    go_wp2_with fail
    refine(Ah s _ hs).mono ?_
    rintro e w2 ⟨rfl,hb⟩
    obtain⟨hc2,hf2⟩:=pq hb
    have hz:=hb.size
    have B2:Hid (Below w.heap.size w w2):=(uh B1).trans (hb.mono (uh B1).size)
    try simp only[World.size_alloc] at hz hc2 hf2
    have Rl:w.heap.size<w2.heap.size:=by first|omega|(simp at hz;omega)
    clear hb hz
    rw[hnm]
    have Gg:=hide ((uh H3).stays lq (uh B2))
    obtain⟨_,_,hva,_,_,hax⟩:=uh Gg
    simp only[Value.slice.injEq] at hva
    obtain⟨rfl,_,rfl⟩:=hva
    have HAX:=hide hax
    clear hax Gg
    go_wp2
    go_loopg [67] args.length (fun g i wr=>∃(m:Nat),m<=args.length∧g=args.length-m∧i=.int .i64 m∧Below w2.heap.size w2 wr∧∀j (h:j<args.length),j<m->Df args[j]=true)
    case atStart=>exact⟨0,Nat.zero_le _,by omega,rfl,Below.refl _ _,fun j _ h=>absurd h (Nat.not_lt_zero _)⟩
    case round =>
     obtain⟨m,hm,hgm,rfl,Hg,aes⟩:=hrel
     rename World=>wv
     have Hy:=hide hgm
     have HAM:=hide aes
     have Az:=hide Hg
     have BV:Hid (Below w.heap.size w wv):=(uh B2).trans (Hg.mono (uh B2).size)
     clear hgm aes Hg
     by_cases Aj:m<args.length
     ·obtain⟨ba,oa,Le,jr,_,hba,Gx,hca,Oy⟩:=uh HAX m Aj
      subst jr
      have hca:∀j (hj:j<Le.length),wv.cell? ⟨ba,oa+m*1+j,none⟩=some Le[j]:=fun j hj=>by rw[(uh Az).cell (p:=⟨ba,_,none⟩) hba];exact hca j hj
      have Oy:=lq.stays _ _ _ _ _ (uh Az) Oy
      obtain⟨va,rfl,hE⟩:=Oy
      obtain⟨be,ce,rfl⟩:=hE.shape
      have r0:=hca 0 (by simp)
      simp only[Nat.mul_one,Nat.add_zero,List.getElem_cons_zero,List.getElem_cons_succ] at r0
      have HE:=hide hE
      obtain⟨_,_,I8,_,hne,hex⟩:=hE
      simp only[Value.slice.injEq] at I8
      obtain⟨rfl,_,rfl⟩:=I8
      unfold Len at hne
      have HEX:=hide hex
      have FALL:Df args[m]=false->args.all Df=false:=fun h=>by
       rw[List.all_eq_false]
       exact⟨args[m],List.getElem_mem Aj,by rw[h];decide⟩
      have a0f:Df args[m]=true->∀j (h:j<args.length),j<m+1->Df args[j]=true:=fun hc j h h1=>by
       by_cases e:j=m
       ·subst e;exact hc
       ·exact uh HAM j h (by omega)
      have Jz:=hide FALL
      have ao8:=hide a0f
      clear hex hca Gx FALL a0f
      generalize args[m]=el at *
      cases hsc:scB el
      ·have hcd:Df el=false:=by rw[←Qm,hsc];rfl
       have HF:=hide (uh Jz hcd)
       clear hcd
       go_wp2_with fail
       refine(Uh el _ _ (uh HE)).mono ?_
       rintro e w3 ⟨rfl,hb3⟩
       rw[hsc]
       go_wp2
       go_ret
       exact⟨gu (uh HF).symm,(uh BV).trans (hb3.mono (uh BV).size)⟩
      ·go_wp2_with fail
       refine(Uh el _ _ (uh HE)).mono ?_
       rintro e w3 ⟨rfl,hb3⟩
       rw[hsc]
       have B3:=hide ((uh BV).trans (hb3.mono (uh BV).size))
       have HB3:=hide hb3
       clear hb3
       go_wp2
       go_loopg [76] el.length (fun g i wr=>∃(q:Nat),q<=el.length∧g=el.length-q∧i=.int .i64 q∧Below w3.heap.size w3 wr∧∀j (h:j<el.length),j<q->(el[j].op == 25)=false)
       case atStart=>exact⟨0,Nat.zero_le _,by omega,rfl,Below.refl _ _,fun j _ h=>absurd h (Nat.not_lt_zero _)⟩
       case round =>
        obtain⟨q,hq,hg3,rfl,Ci,Lu⟩:=hrel
        have Jg:=hide hg3
        have Vd:=hide Lu
        have HBV:Hid (Below wv.heap.size wv wr):=(uh HB3).trans (Ci.mono (uh HB3).size)
        clear hg3 Lu
        by_cases hlt3:q<el.length
        ·obtain⟨b,o,cs,jr,_,hb,hcs,hc,hR⟩:=uh HEX q hlt3
         subst jr
         have hc:∀j (hj:j<cs.length),wr.cell? ⟨b,o+q*3+j,none⟩=some cs[j]:=fun j hj=>by rw[(uh HBV).cell (p:=⟨b,_,none⟩) hb];exact hc j hj
         obtain⟨rfl,hsn,ho,hvl⟩:=hR
         have e0:=hc 0 (by simp)
         have e1:=hc 1 (by simp)
         have e2:=hc 2 (by simp)
         simp only[Nat.mul_one,Nat.add_zero,List.getElem_cons_zero,List.getElem_cons_succ] at e0 e1 e2
         clear hc hcs hsn ho hvl
         cases h25:(el[q].op == 25)
         ·have A':∀j (h:j<el.length),j<q+1->(el[j].op == 25)=false:=by
           intro j h h1
           by_cases e:j=q
           ·subst e;exact h25
           ·exact uh Vd j h (by omega)
          have HA':=hide A'
          clear A'
          go_wp2
          go_roundg (el.length-(q+1))
          case measure=>have:=uh Jg;omega
          case rel=>exact⟨q+1,by omega,rfl,by go_num,Ci.trans ((Below.refl _ _).alloc Ci.size _),uh HA'⟩
         ·have hcd:Df el=false:=by
           rw[←Qm,Bool.and_eq_false_iff]
           right
           rw[List.all_eq_false]
           exact⟨el[q],List.getElem_mem hlt3,by rw[h25];decide⟩
          have HF:=hide (uh Jz hcd)
          clear hcd
          go_wp2
          go_ret
          exact⟨gu (uh HF).symm,(uh B3).trans ((Ci.mono (Nat.le_refl _)).trans ((Below.refl _ _).alloc Ci.size _) |>.mono (uh B3).size)⟩
        ·have hcd:Df el=true:=by
          rw[←Qm,hsc,Bool.true_and,List.all_eq_true]
          intro x hx
          obtain⟨j,hj,rfl⟩:=List.getElem_of_mem hx
          rw[uh Vd j hj (by omega)]
          rfl
         have B4:Hid (Below w.heap.size w wr):=(uh B3).trans (Ci.mono (uh B3).size)
         clear Ci
         go_wp2
         go_roundg (args.length-(m+1))
         case measure=>have:=uh Hy;omega
         case rel=>exact⟨m+1,by omega,rfl,by go_num,(uh Az).trans ((uh HBV).mono (uh Az).size),uh ao8 hcd⟩
     ·have HF:Hid (args.all Df=true):=by
       show args.all Df=true
       rw[List.all_eq_true]
       intro x hx
       obtain⟨j,hj,rfl⟩:=List.getElem_of_mem hx
       exact uh HAM j hj (by omega)
      go_wp2
      go_ret
      exact⟨gu (uh HF).symm,uh BV⟩
end Go.Proofs.YtflcnhfakcgkeaaGreat
