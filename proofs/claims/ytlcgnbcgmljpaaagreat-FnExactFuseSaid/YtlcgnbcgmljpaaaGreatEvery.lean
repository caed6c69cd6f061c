import Derived.Test.YtlcgnbcgmljpaaaGreatMEq
import Derived.Lib.ConvBytes
namespace Go.Proofs.YtlcgnbcgmljpaaaGreat
open Go.RowKit
set_option linter.unusedSimpArgs false
set_option linter.unusedVariables false
def Xw (_:Nat) (_:World) (cs:List Value) (x:Int):Prop:=cs=[.int .u8 x]∧0<=x∧x<=255
theorem ad7:Fj Xw:=fun _ _ _ _ _ _ h=>h
def Pq (cs:List Value):Value:=cs.headD (.bool false)
def ah5 (cs:List Value):Value:=cs.headD (.bool false)
def ad8 (cs:List Value):Value:=cs.headD (.bool false)
def agk (cs:List Value):Value:=.agg cs.toArray
set_option maxHeartbeats 400000 in
theorem Xm (p:Int->Bool) (hf:∀(x:Int) cs w,Xw 0 w cs x->Calls Tryz.prog 127 #[Pq cs] w (Ans (.bool (p x)) w)) (xs:List Int) (v:Value) (w:World) (hv:bf 1 1 Xw 0 w v xs) :
  Calls Tryz.prog 126 #[v,.func (.func 127) #[] #[]] w (Ans (.bool (xs.all p)) w):=by
 obtain⟨a,cap,rfl,_,hn,hx⟩:=hv
 unfold Len at hn
 have HX:=hide hx
 have Ql:=hide hf
 clear hx hf
 go_enter Tryz.func126,Tryz.ntmps126
 go_wp2
 go_loopg [6,9] xs.length (fun g x i wr=>∃(k:Nat),k<=xs.length∧g=xs.length-k∧i=.int .i64 k∧Below w.heap.size w wr∧∀j (h:j<xs.length),j<k->p xs[j]=true)
 case atStart=>exact⟨0,Nat.zero_le _,by omega,rfl,Below.refl _ _,fun j _ h=>absurd h (Nat.not_lt_zero _)⟩
 case round =>
  obtain⟨k,hk,hg,rfl,hbl,hall⟩:=hrel
  have HG:=hide hg
  have HA:=hide hall
  clear hg hall
  by_cases hlt:k<xs.length
  ·obtain⟨b,o,cs,rfl,_,hb,hcs,hc,hR⟩:=uh HX k hlt
   have hR:=ad7.stays _ _ _ _ _ hbl hR
   have hc:∀j (hj:j<cs.length),wr.cell? ⟨b,o+k*1+j,none⟩=some cs[j]:=fun j hj=>by rw[hbl.cell (p:=⟨b,_,none⟩) hb];exact hc j hj
   have hcall:=uh Ql xs[k] cs wr hR
   obtain⟨rfl,hx0,hx1⟩:=hR
   have c0:=hc 0 (by simp)
   simp only[Nat.mul_one,Nat.add_zero,List.getElem_cons_zero,List.getElem_cons_succ] at c0
   simp only[Pq,List.headD_cons] at hcall
   have HC:=hide hcall
   clear hc hcs hcall
   cases hp:p xs[k]
   ·have F:xs.all p=false:=by
     rw[List.all_eq_false]
     exact⟨xs[k],List.getElem_mem hlt,by rw[hp];decide⟩
    have HF:=hide F
    clear F
    go_wp2_with fail
    refine(uh HC).mono ?_
    rintro e w1 ⟨rfl,hb1⟩
    rw[hp]
    go_wp2
    go_ret
    exact⟨oq (uh HF).symm,hbl.trans (hb1.mono hbl.size)⟩
   ·have A':∀j (h:j<xs.length),j<k+1->p xs[j]=true:=by
     intro j h h1
     by_cases e:j=k
     ·subst e;exact hp
     ·exact uh HA j h (by omega)
    have HA':=hide A'
    clear A'
    go_wp2_with fail
    refine(uh HC).mono ?_
    rintro e w1 ⟨rfl,hb1⟩
    rw[hp]
    go_wp2
    go_roundg (xs.length-(k+1))
    case measure=>have:=uh HG;omega
    case rel=>exact⟨k+1,by omega,rfl,by go_num,hbl.trans (hb1.mono hbl.size),uh HA'⟩
  ·have e:k=xs.length:=by omega
   have T:xs.all p=true:=by
    rw[List.all_eq_true]
    intro x hx
    obtain⟨j,hj,rfl⟩:=List.getElem_of_mem hx
    exact uh HA j hj (by omega)
   have HT:=hide T
   clear T
   go_wp2
   go_ret
   exact⟨oq (uh HT).symm,hbl⟩
set_option maxHeartbeats 400000 in
theorem Zr (p:Int->Bool) (hf:∀(x:Int) cs w,Xw 0 w cs x->Calls Tryz.prog 129 #[Pq cs] w (Ans (.bool (p x)) w)) (xs:List Int) (v:Value) (w:World) (hv:bf 1 1 Xw 0 w v xs) :
  Calls Tryz.prog 126 #[v,.func (.func 129) #[] #[]] w (Ans (.bool (xs.all p)) w):=by
 obtain⟨a,cap,rfl,_,hn,hx⟩:=hv
 unfold Len at hn
 have HX:=hide hx
 have Ql:=hide hf
 clear hx hf
 go_enter Tryz.func126,Tryz.ntmps126
 go_wp2
 go_loopg [6,9] xs.length (fun g x i wr=>∃(k:Nat),k<=xs.length∧g=xs.length-k∧i=.int .i64 k∧Below w.heap.size w wr∧∀j (h:j<xs.length),j<k->p xs[j]=true)
 case atStart=>exact⟨0,Nat.zero_le _,by omega,rfl,Below.refl _ _,fun j _ h=>absurd h (Nat.not_lt_zero _)⟩
 case round =>
  obtain⟨k,hk,hg,rfl,hbl,hall⟩:=hrel
  have HG:=hide hg
  have HA:=hide hall
  clear hg hall
  by_cases hlt:k<xs.length
  ·obtain⟨b,o,cs,rfl,_,hb,hcs,hc,hR⟩:=uh HX k hlt
   have hR:=ad7.stays _ _ _ _ _ hbl hR
   have hc:∀j (hj:j<cs.length),wr.cell? ⟨b,o+k*1+j,none⟩=some cs[j]:=fun j hj=>by rw[hbl.cell (p:=⟨b,_,none⟩) hb];exact hc j hj
   have hcall:=uh Ql xs[k] cs wr hR
   obtain⟨rfl,hx0,hx1⟩:=hR
   have c0:=hc 0 (by simp)
   simp only[Nat.mul_one,Nat.add_zero,List.getElem_cons_zero,List.getElem_cons_succ] at c0
   simp only[Pq,List.headD_cons] at hcall
   have HC:=hide hcall
   clear hc hcs hcall
   cases hp:p xs[k]
   ·have F:xs.all p=false:=by
     rw[List.all_eq_false]
     exact⟨xs[k],List.getElem_mem hlt,by rw[hp];decide⟩
    have HF:=hide F
    clear F
    go_wp2_with fail
    refine(uh HC).mono ?_
    rintro e w1 ⟨rfl,hb1⟩
    rw[hp]
    go_wp2
    go_ret
    exact⟨oq (uh HF).symm,hbl.trans (hb1.mono hbl.size)⟩
   ·have A':∀j (h:j<xs.length),j<k+1->p xs[j]=true:=by
     intro j h h1
     by_cases e:j=k
     ·subst e;exact hp
     ·exact uh HA j h (by omega)
    have HA':=hide A'
    clear A'
    go_wp2_with fail
    refine(uh HC).mono ?_
    rintro e w1 ⟨rfl,hb1⟩
    rw[hp]
    go_wp2
    go_roundg (xs.length-(k+1))
    case measure=>have:=uh HG;omega
    case rel=>exact⟨k+1,by omega,rfl,by go_num,hbl.trans (hb1.mono hbl.size),uh HA'⟩
  ·have e:k=xs.length:=by omega
   have T:xs.all p=true:=by
    rw[List.all_eq_true]
    intro x hx
    obtain⟨j,hj,rfl⟩:=List.getElem_of_mem hx
    exact uh HA j hj (by omega)
   have HT:=hide T
   clear T
   go_wp2
   go_ret
   exact⟨oq (uh HT).symm,hbl⟩
def Ri (s:ByteArray):List Int:=s.data.toList.map (fun b=>(b.toNat:Int))
theorem Vq (s:ByteArray):(Ri s).length=s.size:=by simp[Ri]
theorem Yq (s:ByteArray) (i:Nat) (h:i<(Ri s).length):(Ri s)[i]=jh s i:=by
 have h':i<s.size:=by rw[Vq] at h;exact h
 rw[Ht h']
 simp[Ri]
 rfl
theorem bytes_at (w:World) (e:TypeId) (s:ByteArray) (cap:Nat) (hs:Len s.size) (hcap:s.size<=cap) :
  bf 1 1 Xw 0 (Lib.bytesWorld w e s) (.slice (some ⟨w.heap.size,0,none⟩) s.size cap) (Ri s):=by
 have hl:=Vq s
 refine⟨_,cap,by rw[hl],⟨by rw[hl,Nat.mul_one];exact hs,by rw[hl];exact hcap⟩,by rw[hl];exact hs,fun i hi=>?_⟩
 have hi':i<s.size:=by omega
 refine⟨_,0,[.int .u8 (Ri s)[i]],rfl,Nat.zero_le _,by rw[Lib.bytesWorld_size];omega,rfl,fun j hj=>?_,rfl,?_,?_⟩
 ·have hj0:j=0:=by simpa using hj
  subst hj0
  simp only[Nat.zero_add,Nat.mul_one,Nat.add_zero,List.getElem_cons_zero]
  rw[Lib.bytesWorld_cell w e s i hi',Yq,Ht hi']
  simp[List.getD,hi']
  rfl
 ·rw[Yq,Ht hi'];exact(ab5 _).1
 ·rw[Yq,Ht hi'];exact(ab5 _).2
theorem Td (w:World) (e:TypeId) (s:ByteArray):Below w.heap.size w (Lib.bytesWorld w e s):=by
 refine⟨?_,?_,?_,by rw[Lib.bytesWorld_size];omega,fun k hk=>Lib.bytesWorld_at_old w e s k hk⟩
 all_goals simp[Lib.bytesWorld,World.freeze,World.alloc,World.drew,-World.alloc_eq,-World.drew_eq]
theorem alj (p:Int->Bool) (s:ByteArray):(Ri s).all p=allB (fun i=>p (jh s i)) 0 s.size:=by
 rw[Bool.eq_iff_iff,List.all_eq_true]
 constructor
 ·intro h
  refine aa7 fun j hj _=>?_
  have hj':j<(Ri s).length:=by rw[Vq];exact hj
  rw[←Yq s j hj']
  exact h _ (List.getElem_mem hj')
 ·intro h x hx
  obtain⟨j,hj,rfl⟩:=List.getElem_of_mem hx
  rw[Yq]
  have h':=h
  unfold allB at h'
  rw[decide_eq_true_iff] at h'
  exact h' j (by rw[Vq] at hj;exact hj) (Nat.zero_le _)
theorem a1u (x:Int) (cs:List Value) (w:World) (h:Xw 0 w cs x):Calls Tryz.prog 127 #[Pq cs] w (Ans (.bool (Oz x)) w):=by
 obtain⟨rfl,h0,h1⟩:=h
 refine(ahc x w h0 h1).mono ?_
 rintro e w' ⟨rfl,rfl⟩
 exact⟨rfl,Below.refl _ _⟩
theorem axz (x:Int) (cs:List Value) (w:World) (h:Xw 0 w cs x):Calls Tryz.prog 129 #[Pq cs] w (Ans (.bool (Gf x)) w):=by
 obtain⟨rfl,h0,h1⟩:=h
 refine(ad9 x w h0 h1).mono ?_
 rintro e w' ⟨rfl,rfl⟩
 exact⟨rfl,Below.refl _ _⟩
theorem Ea (s:ByteArray) (h:s.size=0):(s.toList == [])=true:=by
 have e:s.data.toList=[]:=List.eq_nil_of_length_eq_zero (by rw[Array.length_toList];exact h)
 rw[ByteArray.toList_eq,e]
 rfl
theorem Gg (s:ByteArray) (h:s.size≠0):(s.toList == [])=false:=by
 rw[beq_eq_false_iff_ne,ByteArray.toList_eq]
 intro hh
 have:=congrArg List.length hh
 rw[Array.length_toList] at this
 exact h this
set_option maxHeartbeats 400000 in
theorem agl (s:ByteArray) (w:World) (hs:Len s.size) :
  Calls Tryz.prog 103 #[.string s] w (Ans (.bool (Ag s)) w):=by
 have HS:=hide hs
 unfold Len at hs
 by_cases h1:s.size<1
 ·have e:Ag s=false:=by simp[Ag];omega
  rw[e]
  have d1:(s.toList == [])=true:=Ea s (by omega)
  clear e
  go_enter Tryz.func103,Tryz.ntmps103
  go_wp2
  go_ret
  exact⟨rfl,Below.refl _ _⟩
 have d1:(s.toList == [])=false:=Gg s (by omega)
 by_cases h2:40<s.size
 ·have e:Ag s=false:=by simp[Ag];omega
  rw[e]
  have d2:decide (40<(s.size:Int))=true:=by simp;omega
  clear e
  go_enter Tryz.func103,Tryz.ntmps103
  go_wp2
  go_ret
  exact⟨rfl,Below.refl _ _⟩
 have d2:decide (40<(s.size:Int))=false:=by simp;omega
 have g0:0<s.size:=by omega
 have b0:=Ht g0
 have hb0:=ab5 s[0]
 cases hl:Wi (s[0].toNat:Int)
 ·have e:Ag s=false:=by simp[Ag,b0,hl]
  rw[e]
  clear e b0
  go_enter Tryz.func103,Tryz.ntmps103
  go_wp2_with (go_at_call 124;refine(Tf _ _ (by omega) (by omega)).mono ?_;rintro e w' ⟨rfl,rfl⟩;rw[hl])
  go_ret
  exact⟨rfl,Below.refl _ _⟩
 cases hkw:kwB s
 ·have e:Ag s=(Ri s).all Oz:=by
   rw[alj]
   have:1<=s.size∧s.size<=40:=by omega
   simp[Ag,b0,hl,hkw,this]
  rw[e]
  clear e b0
  have hcv:=fun w=>Lib.run_convert_string_bytes (P:=Tryz.prog) w 9 105 5 s Tryz.underlying9 Tryz.underlying105 Tryz.underlying5
  go_enter Tryz.func103,Tryz.ntmps103
  go_wp2_with fail
  refine(Tf _ _ (by omega) (by omega)).mono ?_
  rintro e w' ⟨rfl,rfl⟩
  rw[hl]
  go_wp2_with fail
  refine(aa8 _ _).mono ?_
  rintro e w' ⟨rfl,rfl⟩
  rw[hkw]
  go_wp2_with fail
  refine(Xm Oz a1u (Ri s) _ _ (bytes_at _ _ s _ (uh HS) (grownCap_ge _ _ _ _))).mono ?_
  rintro e w1 ⟨rfl,hb⟩
  go_wp2
  go_ret
  exact⟨rfl,(Td _ _ _).trans (hb.mono (Td _ _ _).size)⟩
 ·have e:Ag s=false:=by simp[Ag,hkw]
  rw[e]
  clear e b0
  go_enter Tryz.func103,Tryz.ntmps103
  go_wp2_with fail
  refine(Tf _ _ (by omega) (by omega)).mono ?_
  rintro e w' ⟨rfl,rfl⟩
  rw[hl]
  go_wp2_with fail
  refine(aa8 _ _).mono ?_
  rintro e w' ⟨rfl,rfl⟩
  rw[hkw]
  go_wp2
  go_ret
  exact⟨rfl,Below.refl _ _⟩
theorem ax0 (a b:UInt8):((a.toNat:Int) == (b.toNat:Int))=(a == b):=by
 rw[Bool.eq_iff_iff,beq_iff_eq,beq_iff_eq,Int.ofNat_inj,UInt8.toNat_inj]
theorem ar5 (s:ByteArray) (h:1<=s.size):((s.extract 0 1).toList == [36])=(jh s 0 == 36):=by
 rw[Ht (show 0<s.size from h),ByteArray.toList_eq]
 have e:(s.extract 0 1).data.toList=[s[0]'h]:=by
  match s,h with
  | ⟨⟨a::t⟩⟩,_=>simp;rfl
 rw[e]
 have:=ax0 (s[0]'h) 36
 rw[show ((36:UInt8).toNat:Int)=36 from rfl] at this
 rw[this,Bool.eq_iff_iff,beq_iff_eq,beq_iff_eq,List.cons.injEq]
 simp
def tl (s:ByteArray):ByteArray:=s.extract 1 s.size
theorem afe (s:ByteArray):(tl s).size=s.size-1:=by simp[tl]
theorem ah6 (s:ByteArray) (i:Nat) (h:i<s.size-1):jh (tl s) i=jh s (i+1):=by
 have h1:i<(tl s).size:=by rw[afe];exact h
 rw[Ht h1,Ht (show i+1<s.size by omega)]
 congr 2
 simp only[tl,ByteArray.getElem_eq_getElem_data,ByteArray.data_extract,Array.getElem_extract,Nat.add_comm]
def Ej (s:ByteArray):Bool:=decide (1<=s.size)&&(jh s 0 == 36)
set_option maxHeartbeats 400000 in
theorem aa9 (s:ByteArray) (w:World) (hs:Len s.size) :
  Calls Tryz.prog 142 #[.string s,.string ⟨#[36]⟩] w fun e w'=>e=.returned (.bool (Ej s))∧w'=w:=by
 unfold Len at hs
 by_cases h1:1<=s.size
 ·have e:Ej s=((s.extract 0 1).toList == [36]):=by rw[ar5 s h1];simp[Ej,h1]
  rw[e]
  clear e
  go_enter Tryz.func142,Tryz.ntmps142
  go_wp2
  go_ret
  exact⟨rfl,rfl⟩
 ·have e:Ej s=false:=by simp[Ej,h1]
  rw[e]
  clear e
  go_enter Tryz.func142,Tryz.ntmps142
  go_wp2
  go_ret
  exact⟨rfl,rfl⟩
set_option maxHeartbeats 400000 in
theorem aea (s:ByteArray) (w:World) (hs:Len s.size) :
  Calls Tryz.prog 136 #[.string s,.string ⟨#[36]⟩] w fun e w'=>e=.returned (.tuple #[.string (if Ej s=true then tl s else s),.bool (Ej s)])∧w'=w:=by
 have HS:=hide hs
 unfold Len at hs
 cases hst:Ej s
 ·rw[if_neg (by decide)]
  go_enter Tryz.func136,Tryz.ntmps136
  go_wp2_with (go_at_call 142;refine(aa9 s _ (uh HS)).mono ?_;rintro e w' ⟨rfl,rfl⟩;rw[hst])
  go_ret2
  exact⟨rfl,rfl⟩
 ·rw[if_pos rfl]
  have h1:1<=s.size:=by
   simp[Ej] at hst
   have:=hst.1
   omega
  have h1':(1:Int)<=(s.size:Int):=by omega
  have HT:Hid (tl s=s.extract 1 s.size):=rfl
  go_enter Tryz.func136,Tryz.ntmps136
  go_wp2_with (go_at_call 142;refine(aa9 s _ (uh HS)).mono ?_;rintro e w' ⟨rfl,rfl⟩;rw[hst])
  go_ret2
  exact⟨rfl,rfl⟩
set_option maxHeartbeats 400000 in
theorem Ll (s:ByteArray) (w:World) (hs:Len s.size) :
  Calls Tryz.prog 128 #[.string s,.string ⟨#[36]⟩] w fun e w'=>e=.returned (.tuple #[.string (if Ej s=true then tl s else s),.bool (Ej s)])∧w'=w:=by
 cases hst:Ej s
 ·rw[if_neg (by decide)]
  go_enter Tryz.func128,Tryz.ntmps128
  go_wp2_with (go_at_call 136;refine(aea s _ hs).mono ?_;rintro e w' ⟨rfl,rfl⟩;rw[hst,if_neg (by decide)])
  go_ret2
  exact⟨rfl,rfl⟩
 ·rw[if_pos rfl]
  go_enter Tryz.func128,Tryz.ntmps128
  go_wp2_with (go_at_call 136;refine(aea s _ hs).mono ?_;rintro e w' ⟨rfl,rfl⟩;rw[hst,if_pos rfl])
  go_ret2
  exact⟨rfl,rfl⟩
theorem apo (s:ByteArray) (h:Ej s=true):Ci s=(decide (1<=(tl s).size∧(tl s).size<=9)&&!decide (jh (tl s) 0=48)&&(Ri (tl s)).all Gf):=by
 have hs1:1<=s.size:=by simp[Ej] at h;have:=h.1;omega
 have hb0:jh s 0=36:=by simp[Ej] at h;exact h.2
 rw[alj,afe]
 by_cases h2:2<=s.size
 ·have e1:jh (tl s) 0=jh s 1:=ah6 s 0 (by omega)
  have e2:allB (fun i=>Gf (jh (tl s) i)) 0 (s.size-1)=allB (fun i=>Gf (jh s i)) 1 s.size:=by
   unfold allB
   rw[decide_eq_decide]
   constructor
   ·intro hh j hj h1j
    have:=hh (j-1) (by omega) (Nat.zero_le _)
    simp only at this
    rw[ah6 s (j-1) (by omega),show j-1+1=j from by omega] at this
    exact this
   ·intro hh j hj _
    simp only
    rw[ah6 s j hj]
    exact hh (j+1) (by omega) (by omega)
  have e3:decide (2<=s.size∧s.size<=10)=decide (1<=s.size-1∧s.size-1<=9):=by rw[decide_eq_decide];omega
  rw[e1,e2]
  simp only[Ci,hb0,e3]
  simp
 ·have e3:decide (2<=s.size∧s.size<=10)=false:=by rw[decide_eq_false_iff_not];omega
  have e4:decide (1<=s.size-1∧s.size-1<=9)=false:=by rw[decide_eq_false_iff_not];omega
  simp only[Ci,e3,e4,Bool.false_and]
theorem apq (s:ByteArray) (h:Ej s=false):Ci s=false:=by
 unfold Ej at h
 unfold Ci
 by_cases h1:1<=s.size
 ·simp only[h1,decide_true,Bool.true_and] at h
  have:¬jh s 0=36:=by intro hh;rw[hh] at h;exact absurd h (by decide)
  simp[this]
 ·have:decide (2<=s.size∧s.size<=10)=false:=by rw[decide_eq_false_iff_not];omega
  rw[this]
  simp
set_option maxHeartbeats 400000 in
theorem aml (s:ByteArray) (w:World) (hs:Len s.size) :
  Calls Tryz.prog 104 #[.string s] w (Ans (.bool (Ci s)) w):=by
 cases hst:Ej s
 ·rw[apq s hst]
  go_enter Tryz.func104,Tryz.ntmps104
  go_wp2_with (go_at_call 128;refine(Ll s _ hs).mono ?_;rintro e w' ⟨rfl,rfl⟩;rw[hst,if_neg (by decide)])
  go_ret
  exact⟨rfl,Below.refl _ _⟩
 rw[apo s hst]
 have hls:Len (tl s).size:=by unfold Len at *;rw[afe];omega
 generalize htl:tl s=d at *
 have HT:=hide htl
 have HL:=hide hls
 clear htl
 unfold Len at hls
 by_cases h1:d.size<1
 ·have e:(decide (1<=d.size∧d.size<=9)&&!decide (jh d 0=48)&&(Ri d).all Gf)=false:=by
   have:decide (1<=d.size∧d.size<=9)=false:=by rw[decide_eq_false_iff_not];omega
   simp only[this,Bool.false_and]
  rw[e]
  have d1:decide ((d.size:Int)<1)=true:=by simp;omega
  clear e
  go_enter Tryz.func104,Tryz.ntmps104
  go_wp2_with (go_at_call 128;refine(Ll s _ hs).mono ?_;rintro e w' ⟨rfl,rfl⟩;rw[hst,if_pos rfl,uh HT])
  go_ret
  exact⟨rfl,Below.refl _ _⟩
 have d1:decide ((d.size:Int)<1)=false:=by simp;omega
 by_cases h2:9<d.size
 ·have e:(decide (1<=d.size∧d.size<=9)&&!decide (jh d 0=48)&&(Ri d).all Gf)=false:=by
   have:decide (1<=d.size∧d.size<=9)=false:=by rw[decide_eq_false_iff_not];omega
   simp only[this,Bool.false_and]
  rw[e]
  have d2:decide (9<(d.size:Int))=true:=by simp;omega
  clear e
  go_enter Tryz.func104,Tryz.ntmps104
  go_wp2_with (go_at_call 128;refine(Ll s _ hs).mono ?_;rintro e w' ⟨rfl,rfl⟩;rw[hst,if_pos rfl,uh HT])
  go_ret
  exact⟨rfl,Below.refl _ _⟩
 have d2:decide (9<(d.size:Int))=false:=by simp;omega
 have g0:0<d.size:=by omega
 have b0:=Ht g0
 by_cases h3:(d[0].toNat:Int)=48
 ·have e:(decide (1<=d.size∧d.size<=9)&&!decide (jh d 0=48)&&(Ri d).all Gf)=false:=by simp[b0,h3]
  rw[e]
  have d3:((d[0].toNat:Int) == 48)=true:=by rw[beq_iff_eq];exact h3
  clear e b0 h3
  go_enter Tryz.func104,Tryz.ntmps104
  go_wp2_with (go_at_call 128;refine(Ll s _ hs).mono ?_;rintro e w' ⟨rfl,rfl⟩;rw[hst,if_pos rfl,uh HT])
  go_ret
  exact⟨rfl,Below.refl _ _⟩
 have d3:((d[0].toNat:Int) == 48)=false:=by rw[beq_eq_false_iff_ne];exact h3
 have e:(decide (1<=d.size∧d.size<=9)&&!decide (jh d 0=48)&&(Ri d).all Gf)=(Ri d).all Gf:=by
  have:1<=d.size∧d.size<=9:=by omega
  simp[b0,h3,this]
 rw[e]
 clear e b0 h3
 have hcv:=fun w=>Lib.run_convert_string_bytes (P:=Tryz.prog) w 9 105 5 d Tryz.underlying9 Tryz.underlying105 Tryz.underlying5
 go_enter Tryz.func104,Tryz.ntmps104
 go_wp2_with fail
 refine(Ll s _ hs).mono ?_
 rintro e w' ⟨rfl,rfl⟩
 rw[hst,if_pos rfl,uh HT]
 go_wp2_with fail
 refine(Zr Gf axz (Ri d) _ _ (bytes_at _ _ d _ (uh HL) (grownCap_ge _ _ _ _))).mono ?_
 rintro e w1 ⟨rfl,hb⟩
 go_wp2
 go_ret
 exact⟨rfl,(Td _ _ _).trans (hb.mono (Td _ _ _).size)⟩
set_option maxHeartbeats 400000 in
theorem abb (s:ByteArray) (w:World) (hs:Len s.size) :
  Calls Tryz.prog 79 #[.string s] w (Ans (.bool (nameB s)) w):=by
 cases hp:Ag s
 ·have e:nameB s=Ci s:=by simp[nameB,hp]
  rw[e]
  clear e
  go_enter Tryz.func79,Tryz.ntmps79
  go_wp2_with fail
  refine(agl s _ hs).mono ?_
  rintro e w1 ⟨rfl,hb⟩
  rw[hp]
  go_wp2_with fail
  refine(aml s _ hs).mono ?_
  rintro e w2 ⟨rfl,hb2⟩
  go_wp2
  go_ret
  exact⟨rfl,hb.trans (hb2.mono hb.size)⟩
 ·have e:nameB s=true:=by simp[nameB,hp]
  rw[e]
  clear e
  go_enter Tryz.func79,Tryz.ntmps79
  go_wp2_with fail
  refine(agl s _ hs).mono ?_
  rintro e w1 ⟨rfl,hb⟩
  rw[hp]
  go_wp2
  go_ret
  exact⟨rfl,hb⟩
def Kq (op:Int):Int:=if (1<=op∧op<=3)∨op=25 then 0 else if op=4∨op=5∨op=21∨op=22∨op=23 then 1 else if (6<=op∧op<=19)∨op=24 then 2 else if op=20 then 3 else -1
def Xt (op:Int):Int:=if op=1∨op=2∨op=3∨op=25 then 0 else if op=4∨op=5∨op=21∨op=22∨op=23 then 1 else if op=20 then 3 else 2
def loI (op:Int):Int:=if op=21 then -2147483647 else 0
def Yr (op:Int):Int:=if op=1∨op=21 then 2147483647 else if op=2∨op=22∨op=23 then 1 else 0
theorem Nq {a b:Int} (h:a=b):Ending.returned (.int .i64 a)=.returned (.int .i64 b):=by rw[h]
theorem ar6 {a b c d:Int} (h:a=b) (g:c=d):Ending.returned (.tuple #[.int .i64 a,.int .i64 c])=.returned (.tuple #[.int .i64 b,.int .i64 d]):=by rw[h,g]
theorem ax1 (op:Int) : -1<=Kq op∧Kq op<=3:=by unfold Kq;split<;>(try split)<;>(try split)<;>(try split)<;>omega
theorem ax2 (op:Int):0<=Xt op∧Xt op<=3:=by unfold Xt;split<;>(try split)<;>(try split)<;>omega
set_option maxHeartbeats 1000000 in
theorem amm (op:Int) (w:World) (h:I64 op) :
  Calls Tryz.prog 135 #[.int .i64 op] w fun e w'=>e=.returned (.int .i64 (Kq op))∧w'=w:=by
 unfold I64 at h
 go_enter Tryz.func135,Tryz.ntmps135
 go_wp2
 all_goals
  go_ret
  refine⟨Nq ?_,rfl⟩
  simp_all [Kq]
  try omega
set_option maxHeartbeats 1000000 in
theorem aeb (op:Int) (w:World) :
  Calls Tryz.prog 151 #[.int .i64 op] w fun e w'=>e=.returned (.int .i64 (Xt op))∧w'=w:=by
 go_enter Tryz.func151,Tryz.ntmps151
 go_wp2
 all_goals
  go_ret
  refine⟨Nq ?_,rfl⟩
  simp_all [Xt]
  try omega
set_option maxHeartbeats 1000000 in
theorem ahd (op:Int) (w:World) :
  Calls Tryz.prog 152 #[.int .i64 op] w fun e w'=>e=.returned (.tuple #[.int .i64 (loI op),.int .i64 (Yr op)])∧w'=w:=by
 go_enter Tryz.func152,Tryz.ntmps152
 go_wp2
 all_goals
  go_ret2
  refine⟨ar6 ?_ ?_,rfl⟩
  all_goals
   simp_all [loI,Yr]
   try omega
def Xu (t:iw):Bool:=if t.op=3∨t.op=23∨t.op=24 then nameB t.name else decide (t.name.size=0)
def rgB (t:iw):Bool:=decide (loI t.op<=t.val∧t.val<=Yr t.op)
def O5 (t:iw):Bool:=Xu t&&(decide (t.op=25)||rgB t)
def itB (t:iw):Bool:=decide (1<=t.op∧t.op<=24)&&rgB t&&Xu t
theorem ako (s:ByteArray) (h:s.size=0):nameB s=false:=by
 simp[nameB,Ag,Ci,h]
theorem Bg (s:ByteArray) (h:s.size=0):s.toList.isEmpty=true:=by
 have e:s.data.toList=[]:=List.eq_nil_of_length_eq_zero (by rw[Array.length_toList];exact h)
 rw[ByteArray.toList_eq,e]
 rfl
theorem Cj (s:ByteArray) (h:s.size≠0):s.toList.isEmpty=false:=by
 cases hh:s.toList.isEmpty with
 | false=>rfl
 | true =>
  rw[List.isEmpty_iff,ByteArray.toList_eq] at hh
  have:=congrArg List.length hh
  rw[Array.length_toList] at this
  exact absurd this h
set_option maxHeartbeats 1000000 in
theorem ahe (t:iw) (w:World) (hs:Len t.name.size) :
  Calls Tryz.prog 153 #[.agg #[.int .i64 t.op,.int .i64 t.val,.string t.name]] w (Ans (.bool (Xu t)) w):=by
 obtain⟨op,val,s⟩:=t
 simp only at hs
 by_cases hn:op=3∨op=23∨op=24
 ·have e:Xu ⟨op,val,s⟩=nameB s:=by simp only[Xu];rw[if_pos hn]
  rw[e]
  clear e
  rcases hn with rfl|rfl|rfl
  all_goals
   go_enter Tryz.func153,Tryz.ntmps153
   go_wp2_with fail
   refine(abb s _ hs).mono ?_
   rintro e w1 ⟨rfl,hb⟩
   go_wp2
   go_ret
   exact⟨rfl,((Below.refl _ _).alloc (Nat.le_refl _) _).trans (hb.mono (by simp))⟩
 ·have e:Xu ⟨op,val,s⟩=s.toList.isEmpty:=by
   simp only[Xu]
   rw[if_neg hn]
   by_cases h0:s.size=0
   ·rw[Bg s h0];simpa using h0
   ·rw[Cj s h0];simpa using h0
  rw[e]
  clear e
  have d1:(op == 3)=false:=by rw[beq_eq_false_iff_ne];omega
  have d2:(op == 23)=false:=by rw[beq_eq_false_iff_ne];omega
  have d3:(op == 24)=false:=by rw[beq_eq_false_iff_ne];omega
  clear hn
  go_enter Tryz.func153,Tryz.ntmps153
  go_wp2
  go_ret
  exact⟨rfl,(Below.refl _ _).alloc (Nat.le_refl _) _⟩
set_option maxHeartbeats 1000000 in
theorem apr (t:iw) (w:World) (hs:Len t.name.size) :
  Calls Tryz.prog 150 #[.agg #[.int .i64 t.op,.int .i64 t.val,.string t.name]] w (Ans (.bool (itB t)) w):=by
 have HI:=hide (fun w=>ahe t w hs)
 have HE:Hid (itB t=(decide (1<=t.op∧t.op<=24)&&rgB t&&Xu t)):=rfl
 have HR:Hid (rgB t=decide (loI t.op<=t.val∧t.val<=Yr t.op)):=rfl
 generalize itB t=res at *
 generalize Xu t=nm at *
 generalize rgB t=rg at *
 obtain⟨op,val,s⟩:=t
 simp only at hs
 by_cases h1:op<1
 ·have d1:decide (op<1)=true:=by simpa using h1
  have e:res=false:=by rw[uh HE];simp;intro;omega
  subst e
  go_enter Tryz.func150,Tryz.ntmps150
  go_wp2
  go_ret
  exact⟨rfl,(Below.refl _ _).alloc (Nat.le_refl _) _⟩
 have d1:decide (op<1)=false:=by simpa using h1
 by_cases h2:24<op
 ·have d2:decide (24<op)=true:=by simpa using h2
  have e:res=false:=by rw[uh HE];simp;intro;omega
  subst e
  go_enter Tryz.func150,Tryz.ntmps150
  go_wp2
  go_ret
  exact⟨rfl,(Below.refl _ _).alloc (Nat.le_refl _) _⟩
 have d2:decide (24<op)=false:=by simpa using h2
 have e:res=(rg&&nm):=by
  have hh:decide (1<=op∧op<=24)=true:=by simp;omega
  rw[uh HE]
  simp only[hh,Bool.true_and]
 subst e
 have hr:=uh HR
 simp only at hr
 have HV:=hide (fun w=>ahd op w)
 generalize loI op=lo at *
 generalize Yr op=hi at *
 by_cases h3:lo<=val∧val<=hi
 ·have e:rg=true:=by rw[hr];simpa using h3
  subst e
  obtain⟨h3,h4⟩:=h3
  have d3:decide (lo<=val)=true:=by simpa using h3
  have d4:decide (val<=hi)=true:=by simpa using h4
  clear hr
  go_enter Tryz.func150,Tryz.ntmps150
  go_wp2_with fail
  refine(uh HV _).mono ?_
  rintro e w1 ⟨rfl,rfl⟩
  go_wp2_with fail
  refine(uh HI _).mono ?_
  rintro e w2 ⟨rfl,hb⟩
  go_wp2
  go_ret
  exact⟨oq (by simp),((Below.refl _ _).alloc (Nat.le_refl _) _).trans (hb.mono (by simp))⟩
 ·have e:rg=false:=by rw[hr];simpa using h3
  subst e
  clear hr
  by_cases h4:lo<=val
  ·have h5:¬val<=hi:=fun h=>h3 ⟨h4,h⟩
   have d3:decide (lo<=val)=true:=by simpa using h4
   have d4:decide (val<=hi)=false:=by simpa using h5
   clear h3
   go_enter Tryz.func150,Tryz.ntmps150
   go_wp2_with fail
   refine(uh HV _).mono ?_
   rintro e w1 ⟨rfl,rfl⟩
   go_wp2
   go_ret
   exact⟨oq (by simp),(Below.refl _ _).alloc (Nat.le_refl _) _⟩
  ·have d3:decide (lo<=val)=false:=by simpa using h4
   clear h3
   go_enter Tryz.func150,Tryz.ntmps150
   go_wp2_with fail
   refine(uh HV _).mono ?_
   rintro e w1 ⟨rfl,rfl⟩
   go_wp2
   go_ret
   exact⟨oq (by simp),(Below.refl _ _).alloc (Nat.le_refl _) _⟩
set_option maxHeartbeats 1000000 in
theorem akl (t:iw) (w:World) (hs:Len t.name.size) :
  Calls Tryz.prog 122 #[.agg #[.int .i64 t.op,.int .i64 t.val,.string t.name]] w (Ans (.bool (O5 t)) w):=by
 obtain⟨op,val,s⟩:=t
 simp only at hs
 by_cases hn:op=3∨op=23∨op=24
 ·have e:O5 ⟨op,val,s⟩=(nameB s&&decide (loI op<=val∧val<=Yr op)):=by
   have Jd:¬op=25:=by omega
   simp only[O5,Xu,rgB,Jd,decide_false,Bool.false_or]
   rw[if_pos hn]
  rw[e]
  clear e
  by_cases h0:s.size=0
  ·have d0:=Ea s h0
   have d0':=Bg s h0
   rw[ako s h0]
   rcases hn with rfl|rfl|rfl
   all_goals
    go_enter Tryz.func122,Tryz.ntmps122
    go_wp2
    go_ret
    exact⟨rfl,(Below.refl _ _).alloc (Nat.le_refl _) _⟩
  ·have d0:=Gg s h0
   have d0':=Cj s h0
   cases hnm:nameB s
   ·rcases hn with rfl|rfl|rfl
    all_goals
     go_enter Tryz.func122,Tryz.ntmps122
     go_wp2_with fail
     refine(Xx s _ hs).mono ?_
     rintro e w1 ⟨rfl,hb⟩
     rw[hnm]
     go_wp2
     go_ret
     exact⟨rfl,((Below.refl _ _).alloc (Nat.le_refl _) _).trans (hb.mono (by simp))⟩
   ·rcases hn with rfl|rfl|rfl
    all_goals
     simp only[loI,Yr]
     go_enter Tryz.func122,Tryz.ntmps122
     go_wp2_with fail
     refine(Xx s _ hs).mono ?_
     rintro e w1 ⟨rfl,hb⟩
     rw[hnm]
     obtain⟨hc1,hf1⟩:=Bo hb
     have hz:=hb.size
     simp only[World.size_alloc] at hz hc1 hf1
     have hza:w.heap.size<w1.heap.size:=by omega
     have HB:=hide (((Below.refl w.heap.size w).alloc (Nat.le_refl _) _).trans (hb.mono (by simp)))
     clear hb hz
     go_wp2
     all_goals
      go_ret
      refine⟨oq ?_,uh HB⟩
      simp_all
      try omega
 ·have d1:(op == 3)=false:=by rw[beq_eq_false_iff_ne];omega
  have d2:(op == 23)=false:=by rw[beq_eq_false_iff_ne];omega
  have d3:(op == 24)=false:=by rw[beq_eq_false_iff_ne];omega
  have e:O5 ⟨op,val,s⟩=(decide (s.size=0)&&(decide (op=25)||decide (loI op<=val∧val<=Yr op))):=by
   simp only[O5,Xu,rgB]
   rw[if_neg hn]
  rw[e]
  clear e
  by_cases h0:s.size=0
  ·have d0:=Ea s h0
   have d0':=Bg s h0
   have e:decide (s.size=0)=true:=by simpa using h0
   rw[e]
   clear e h0
   go_enter Tryz.func122,Tryz.ntmps122
   go_wp2
   all_goals
    go_ret
    refine⟨oq ?_,(Below.refl _ _).alloc (Nat.le_refl _) _⟩
    simp_all [loI,Yr]
    try omega
  ·have d0:=Gg s h0
   have d0':=Cj s h0
   have e:decide (s.size=0)=false:=by simpa using h0
   rw[e]
   clear e h0
   go_enter Tryz.func122,Tryz.ntmps122
   go_wp2
   go_ret
   exact⟨rfl,(Below.refl _ _).alloc (Nat.le_refl _) _⟩
def wk:List iw->Int->Bool
 | [],r=>r == 1
 | t::ts,r=>if r<Xt t.op then false else wk ts (r+(1-Xt t.op))
def bk:List iw->Nat->Option Nat
 | ts,0=>some ts.length
 | [],_+1=>none
 | t::ts,n+1=>if Kq t.op<0 then none else bk ts (n+(Kq t.op).toNat)
def V8 (code:List iw):Int:=match bk code.reverse 1 with
 | none => -1
 | some m=>m
set_option maxHeartbeats 400000 in
theorem akp (xs:List iw) (v:Value) (w:World) (hv:bf 3 32 tu 0 w v xs) :
  Calls Tryz.prog 149 #[v] w (Ans (.bool (wk xs 0)) w):=by
 obtain⟨a,cap,rfl,_,hn,hx⟩:=hv
 unfold Len at hn
 have HX:=hide hx
 clear hx
 go_enter Tryz.func149,Tryz.ntmps149
 go_wp2
 go_loopg [3,9] xs.length (fun g l i wr=>∃(k:Nat) (r:Int),k<=xs.length∧g=xs.length-k∧i=.int .i64 k∧l=.int .i64 r∧0<=r∧r<=k∧wk xs 0=wk (xs.drop k) r∧Below w.heap.size w wr)
 case atStart=>exact⟨0,0,Nat.zero_le _,by omega,rfl,rfl,by omega,by omega,by simp,Below.refl _ _⟩
 case round =>
  obtain⟨k,r,hk,hg,rfl,rfl,hr0,hr1,hwk,hbl⟩:=hrel
  have HG:=hide hg
  have HW:=hide hwk
  clear hg hwk
  by_cases hlt:k<xs.length
  ·obtain⟨b,o,cs,rfl,_,hb,hcs,hc,hR⟩:=uh HX k hlt
   have hc:∀j (hj:j<cs.length),wr.cell? ⟨b,o+k*3+j,none⟩=some cs[j]:=fun j hj=>by rw[hbl.cell (p:=⟨b,_,none⟩) hb];exact hc j hj
   obtain⟨rfl,hsn,ho,hvl⟩:=hR
   have c0:=hc 0 (by simp)
   have c1:=hc 1 (by simp)
   have c2:=hc 2 (by simp)
   simp only[Nat.mul_one,Nat.add_zero,List.getElem_cons_zero,List.getElem_cons_succ] at c0 c1 c2
   have hd:xs.drop k=xs[k]::xs.drop (k+1):=List.drop_eq_getElem_cons hlt
   have hbd:=ax2 xs[k].op
   have HOC:=hide (fun w=>aeb xs[k].op w)
   by_cases hneg:r<Xt xs[k].op
   ·have F:wk xs 0=false:=by rw[uh HW,hd];simp only[wk];rw[if_pos hneg]
    have HF:=hide F
    clear F hd hc hcs ho hvl hsn
    generalize xs[k].op=op at *
    generalize Xt op=oc at *
    go_wp2_with fail
    refine(uh HOC _).mono ?_
    rintro e w1 ⟨rfl,rfl⟩
    go_wp2
    go_ret
    exact⟨oq (uh HF).symm,hbl.trans ((Below.refl _ _).alloc hbl.size _)⟩
   ·have F:wk xs 0=wk (xs.drop (k+1)) (r+(1-Xt xs[k].op)):=by
     rw[uh HW,hd]
     simp only[wk]
     rw[if_neg hneg]
    have HF:=hide F
    clear F hd hc hcs ho hvl hsn
    generalize xs[k].op=op at *
    generalize Xt op=oc at *
    go_wp2_with fail
    refine(uh HOC _).mono ?_
    rintro e w1 ⟨rfl,rfl⟩
    go_wp2
    go_roundg (xs.length-(k+1))
    case measure=>have:=uh HG;omega
    case rel=>exact⟨k+1,r+(1-oc),by omega,rfl,by go_num,rfl,by omega,by omega,uh HF,hbl.trans ((Below.refl _ _).alloc hbl.size _)⟩
  ·have e:k=xs.length:=by omega
   have F:wk xs 0=(r == 1):=by rw[uh HW,e,List.drop_length];rfl
   have HF:=hide F
   clear F
   go_wp2
   go_ret
   exact⟨oq (uh HF).symm,hbl⟩
theorem int_eq {a b:Int} (h:a=b):Value.int .i64 a=.int .i64 b:=by rw[h]
theorem alh (ts:List iw):bk ts 0=some ts.length:=by cases ts<;>rfl
theorem ar7 (xs:List iw) (a:Nat) (h:a<xs.length):(xs.take (a+1)).reverse=xs[a]::(xs.take a).reverse:=by
 rw[List.take_succ_eq_append_getElem h,List.reverse_append]
 rfl
set_option maxHeartbeats 400000 in
theorem ad4 (xs:List iw) (v:Value) (w:World) (hv:bf 3 32 tu 0 w v xs) :
  Calls Tryz.prog 121 #[v,.int .i64 xs.length] w fun e w'=>e=.returned (.int .i64 (V8 xs))∧w'=w:=by
 obtain⟨a,cap,rfl,_,hn,hx⟩:=hv
 unfold Len at hn
 have HX:=hide hx
 clear hx
 go_enter Tryz.func121,Tryz.ntmps121
 go_wp2
 go_loopg [5,6] (xs.length) (fun g l i wr=>∃(m n:Nat),m<=xs.length∧g=m∧l=.int .i64 m∧i=.int .i64 n∧n+3*m<=3*xs.length+1∧bk xs.reverse 1=bk (xs.take m).reverse n∧wr=w)
 case atStart=>exact⟨xs.length,1,Nat.le_refl _,rfl,rfl,rfl,by omega,by rw[List.take_length],rfl⟩
 case round =>
  obtain⟨m,n,hm,hg,rfl,rfl,hn3,hbk,rfl⟩:=hrel
  have HG:=hide hg
  have HB:=hide hbk
  clear hg hbk
  match n with
  | 0 =>
   have F:V8 xs=m:=by
    unfold V8
    rw[uh HB,alh]
    simp
    omega
   have HF:=hide F
   clear F
   go_wp2
   go_ret
   exact⟨Nq (uh HF).symm,rfl⟩
  | n+1 =>
   match m with
   | 0 =>
    have F:V8 xs = -1:=by
     unfold V8
     rw[uh HB]
     rfl
    have HF:=hide F
    clear F
    go_wp2
    go_ret
    exact⟨Nq (uh HF).symm,rfl⟩
   | m+1 =>
    have hlt:m<xs.length:=by omega
    obtain⟨b,o,cs,rfl,_,hb,hcs,hc,hR⟩:=uh HX m hlt
    obtain⟨rfl,hsn,ho,hvl⟩:=hR
    have c0:=hc 0 (by simp)
    simp only[Nat.mul_one,Nat.add_zero,List.getElem_cons_zero,List.getElem_cons_succ] at c0
    have hbd:=ax1 xs[m].op
    have HAR:=hide (fun w=>amm xs[m].op w ho)
    have hd:=uh HB
    rw[ar7 xs m hlt] at hd
    simp only[bk] at hd
    by_cases hneg:Kq xs[m].op<0
    ·have F:V8 xs = -1:=by
      unfold V8
      rw[hd,if_pos hneg]
     have HF:=hide F
     clear F hd hc hcs ho hvl hsn
     generalize xs[m].op=op at *
     generalize Kq op=ar at *
     go_wp2_with fail
     refine(uh HAR _).mono ?_
     rintro e w1 ⟨rfl,rfl⟩
     go_wp2
     go_ret
     exact⟨Nq (uh HF).symm,rfl⟩
    ·rw[if_neg hneg] at hd
     have HF:=hide hd
     clear hd hc hcs ho hvl hsn
     generalize xs[m].op=op at *
     generalize Kq op=ar at *
     go_wp2_with fail
     refine(uh HAR _).mono ?_
     rintro e w1 ⟨rfl,rfl⟩
     go_wp2_with fail
     refine(uh HAR _).mono ?_
     rintro e w1 ⟨rfl,rfl⟩
     go_wp2
     go_roundg m
     case measure=>have:=uh HG;omega
     case rel=>exact⟨m,n+ar.toNat,by omega,rfl,by go_num,int_eq (by omega),by omega,uh HF,rfl⟩
end Go.Proofs.YtlcgnbcgmljpaaaGreat
