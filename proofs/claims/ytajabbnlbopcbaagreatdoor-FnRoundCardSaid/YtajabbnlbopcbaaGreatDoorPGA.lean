import Derived.Test.YtajabbnlbopcbaaGreatDoorPG6
import Derived.Test.YtajabbnlbopcbaaGreatDoorRV1
namespace Go.Proofs.YtajabbnlbopcbaaGreatDoor
open Go.RowKit
set_option linter.unusedSimpArgs false
set_option linter.unusedVariables false
theorem ba_zero {s : ByteArray} (h : s.size = 0) : s = ⟨#[]⟩:=by
 apply ByteArray.ext
 apply Array.ext'
 have : s.data.toList.length = 0:=by rw [Array.length_toList]; exact h
 rw [List.eq_nil_of_length_eq_zero this]
theorem kw_ne {s K : ByteArray} (hs : plainB s = true) (hK : (kwB K || symB K) = true) : ¬ s = K:=fun e => by
 have hp:=plain_parts hs
 rw [Bool.or_eq_true] at hK
 rcases hK with h | h
 ·rw [← e,hp.2.2.1] at h; cases h
 ·have h9:=(sy_parts _ (sy_mem h)).2.1
  rw [← e,let_word hp.2.1] at h9
  cases h9
theorem nu_ne {v : Int} {K : ByteArray} (hv : 0 ≤ v) (hK : (kwB K || symB K) = true) : ¬ dcT v = K:=fun e => by
 obtain ⟨u,_,e2⟩:=dcT_at hv
 have hd : digB (byt (dcT v) 0) = true:=by rw [e2]; exact dcN_dig u 0 (dcN_pos u)
 rw [e] at hd
 rw [Bool.or_eq_true] at hK
 rcases hK with h | h
 ·have h9:=(kws_parts _ (kw_mem h)).2.1
  have h8 : 48 ≤ byt K 0 ∧ byt K 0 ≤ 57:=by simpa [digB] using hd
  simp only [letB,decide_eq_true_iff] at h9
  omega
 ·have h9:=(sy_parts _ (sy_mem h)).2.1
  rw [dig_word hd] at h9
  cases h9
def headP (t : Pc) : Prop:=(t.kind = 1 ∧ plainB t.text = true) ∨ (t.kind = 2 ∧ t.text = dcT t.val ∧ 0 ≤ t.val ∧ t.val ≤ 2147483647) ∨ (t.kind = 3 ∧ (t.text = Ltrue ∨ t.text = Lfalse ∨ t.text = Kop))
theorem headP.ne {t : Pc} (h : headP t) {K : ByteArray} (hK : (kwB K || symB K) = true) (h1 : ¬ Ltrue = K) (h2 : ¬ Lfalse = K) (h3 : ¬ Kop = K) : ¬ t.text = K:=by
 rcases h with ⟨_,h⟩ | ⟨_,h,h0,_⟩ | ⟨_,h | h | h⟩
 ·exact kw_ne h hK
 ·rw [h]; exact nu_ne h0 hK
 ·rw [h]; exact h1
 ·rw [h]; exact h2
 ·rw [h]; exact h3
theorem it_name {t : DItem} (h : itB t = true) (hn : ¬ (t.op = 3 ∨ t.op = 23 ∨ t.op = 24)) : t.name = ⟨#[]⟩:=by
 have h9:=((it_iff t).1 h).2.2
 unfold nmB at h9
 rw [if_neg hn] at h9
 exact ba_zero (of_decide_eq_true h9)
theorem it_val {t : DItem} (h : itB t = true) : loI t.op ≤ t.val ∧ t.val ≤ hiI t.op:=of_decide_eq_true ((it_iff t).1 h).2.1
theorem it_zero {t : DItem} (h : itB t = true) (hn : ¬ (t.op = 1 ∨ t.op = 2 ∨ t.op = 21 ∨ t.op = 22 ∨ t.op = 23)) : t.val = 0:=by
 have h9:=it_val h
 unfold loI hiI at h9
 rw [if_neg (by omega),if_neg (by omega),if_neg (by omega)] at h9
 omega
theorem it_bit {t : DItem} (h : itB t = true) (hn : t.op = 2 ∨ t.op = 22 ∨ t.op = 23) : t.val = 0 ∨ t.val = 1:=by
 have h9:=it_val h
 unfold loI hiI at h9
 rw [if_neg (by omega),if_neg (by omega),if_pos (by omega)] at h9
 omega
theorem Ex.shape {c : List DItem} {ps : List Pc} (h : Ex c ps) : ∃ (t : DItem) (l : List CP),itP t ∧ l.length = arN t.op ∧ (∀ x ∈ l,Ex x.1 x.2) ∧ c = l.flatMap (·.1) ++ [t] ∧ ps = wvP (psT t) (l.map (·.2)):=by
 refine Ex.ind (motive:=fun c ps => ∃ (t : DItem) (l : List CP),itP t ∧ l.length = arN t.op ∧ (∀ x ∈ l,Ex x.1 x.2) ∧ c = l.flatMap (·.1) ++ [t] ∧ ps = wvP (psT t) (l.map (·.2))) h ?_
 intro t l ht hl hx _
 exact ⟨t,l,ht,hl,hx,rfl,rfl⟩
theorem psT_1 {t : DItem} (h : t.op = 1) : psT t = [[nuP t.val]]:=by simp only [psT,if_pos h]
theorem psT_2 {t : DItem} (h : t.op = 2) : psT t = [[tvP t.val]]:=by simp only [psT,h]; rfl
theorem psT_3 {t : DItem} (h : t.op = 3) : psT t = [[nmP t.name]]:=by simp only [psT,h]; rfl
theorem psT_4 {t : DItem} (h : t.op = 4) : psT t = [[fx Kop,fx Kmin,spP],[fx Kcl]]:=by simp only [psT,h]; rfl
theorem psT_5 {t : DItem} (h : t.op = 5) : psT t = [[fx Kop,fx Knot,spP],[fx Kcl]]:=by simp only [psT,h]; rfl
theorem psT_20 {t : DItem} (h : t.op = 20) : psT t = [[fx Kop,fx Kif,spP],[spP,fx Kthen,spP],[spP,fx Kelse,spP],[fx Kcl]]:=by simp only [psT,h]; rfl
theorem psT_21 {t : DItem} (h : t.op = 21) : psT t = [fx Kop :: (nvP t.val ++ [spP,fx Kfby,spP]),[fx Kcl]]:=by simp only [psT,h]; rfl
theorem psT_22 {t : DItem} (h : t.op = 22) : psT t = [[fx Kop,tvP t.val,spP,fx Kfby,spP],[fx Kcl]]:=by simp only [psT,h]; rfl
theorem psT_23 {t : DItem} (h : t.op = 23) : psT t = [[fx Kop],[spP,cwP (decide (t.val = 1)),spP,nmP t.name,fx Kcl]]:=by simp only [psT,h]; rfl
theorem psT_24 {t : DItem} (h : t.op = 24) : psT t = [[fx Kop,fx Kmerge,spP,nmP t.name,spP],[spP],[fx Kcl]]:=by simp only [psT,h]; rfl
theorem psT_bin {t : DItem} (h : 6 ≤ t.op ∧ t.op ≤ 19) : psT t = [[fx Kop],[spP,fx (sgT t.op),spP],[fx Kcl]]:=by
 unfold psT
 rw [if_neg (by omega),if_neg (by omega),if_neg (by omega),if_neg (by omega),if_neg (by omega),if_neg (by omega),if_neg (by omega),if_neg (by omega),if_neg (by omega),if_neg (by omega)]
theorem nvP_tk (v : Int) : tkP (nvP v) = nvP v:=by unfold nvP; split <;> rfl
theorem len0 {l : List CP} {n : Nat} (h : l.length = n) (hn : n = 0) : l = []:=List.eq_nil_of_length_eq_zero (by omega)
theorem len1 {l : List CP} {n : Nat} (h : l.length = n) (hn : n = 1) : ∃ x,l = [x]:=List.length_eq_one_iff.1 (by omega)
theorem len3 {l : List CP} {n : Nat} (h : l.length = n) (hn : n = 3) : ∃ x y z,l = [x,y,z]:=by
 subst hn
 match l,h with
 | [x,y,z],_ => exact ⟨x,y,z,rfl⟩
theorem arN_bin {op : Int} (h : 6 ≤ op ∧ op ≤ 19) : arN op = 2:=by
 unfold arN ocI
 rw [if_neg (by omega),if_neg (by omega),if_neg (by omega)]
 rfl
theorem kinds {t : DItem} (h : itP t) : t.op = 1 ∨ t.op = 2 ∨ t.op = 3 ∨ t.op = 4 ∨ t.op = 5 ∨ t.op = 20 ∨ t.op = 21 ∨ t.op = 22 ∨ t.op = 23 ∨ t.op = 24 ∨ (6 ≤ t.op ∧ t.op ≤ 19):=by
 have:=itP_op h
 omega
theorem Ex.headK {c : List DItem} {ps : List Pc} (h : Ex c ps) : ∃ a T,tkP ps = a :: T ∧ headP a ∧ (¬ a.text = Kop → T = []):=by
 obtain ⟨t,l,ht,hl,hx,rfl,rfl⟩:=h.shape
 have par : ∀ T : List Pc,∃ a T',fx Kop :: T = a :: T' ∧ headP a ∧ (¬ a.text = Kop → T' = []):=fun T => ⟨fx Kop,T,rfl,Or.inr (Or.inr ⟨rfl,Or.inr (Or.inr rfl)⟩),fun h => absurd rfl h⟩
 have hb:=ht.1
 rcases kinds ht with o | o | o | o | o | o | o | o | o | o | o
 ·obtain rfl:=len0 hl (by rw [o]; rfl)
  rw [psT_1 o]
  have hv:=it_val hb
  rw [o] at hv
  exact ⟨nuP t.val,[],rfl,Or.inr (Or.inl ⟨rfl,rfl,hv.1,hv.2⟩),fun _ => rfl⟩
 ·obtain rfl:=len0 hl (by rw [o]; rfl)
  rw [psT_2 o]
  refine ⟨tvP t.val,[],rfl,Or.inr (Or.inr ⟨rfl,?_⟩),fun _ => rfl⟩
  show flT t.val = _ ∨ flT t.val = _ ∨ _
  unfold flT
  split
  ·exact Or.inr (Or.inl rfl)
  ·exact Or.inl rfl
 ·obtain rfl:=len0 hl (by rw [o]; rfl)
  rw [psT_3 o]
  exact ⟨nmP t.name,[],rfl,Or.inl ⟨rfl,ht.2 (Or.inl o)⟩,fun _ => rfl⟩
 ·obtain ⟨x,rfl⟩:=len1 hl (by rw [o]; rfl)
  rw [psT_4 o]
  exact par _
 ·obtain ⟨x,rfl⟩:=len1 hl (by rw [o]; rfl)
  rw [psT_5 o]
  exact par _
 ·obtain ⟨x,y,z,rfl⟩:=len3 hl (by rw [o]; rfl)
  rw [psT_20 o]
  exact par _
 ·obtain ⟨x,rfl⟩:=len1 hl (by rw [o]; rfl)
  rw [psT_21 o]
  exact par _
 ·obtain ⟨x,rfl⟩:=len1 hl (by rw [o]; rfl)
  rw [psT_22 o]
  exact par _
 ·obtain ⟨x,rfl⟩:=len1 hl (by rw [o]; rfl)
  rw [psT_23 o]
  exact par _
 ·obtain ⟨x,y,rfl⟩:=len2 (by rw [hl,o]; rfl)
  rw [psT_24 o]
  exact par _
 ·obtain ⟨x,y,rfl⟩:=len2 (by rw [hl,arN_bin o])
  rw [psT_bin o]
  exact par _
theorem Ex.head {c : List DItem} {ps : List Pc} (h : Ex c ps) : ∃ a T,tkP ps = a :: T ∧ headP a ∧ (a.kind = 2 ∨ a.text = Ltrue ∨ a.text = Lfalse → T = []):=by
 obtain ⟨a,T,e,ha,hT⟩:=h.headK
 refine ⟨a,T,e,ha,fun h9 => hT (fun e9 => ?_)⟩
 rcases h9 with h9 | h9 | h9
 ·rcases ha with ⟨g,_⟩ | ⟨_,g,g0,_⟩ | ⟨g,_⟩
  ·omega
  ·exact nu_ne g0 wKop (g.symm.trans e9)
  ·omega
 ·exact absurd (h9.symm.trans e9) (by decide)
 ·exact absurd (h9.symm.trans e9) (by decide)
theorem Ex.delay {c : List DItem} {ps : List Pc} (h : Ex c ps) {t : Pc} (ht : ¬ t.text = Kfby) (L : List Pc) : ∃ a b M,tkP ps ++ t :: L = a :: b :: M ∧ ¬ a.text = Kif ∧ ¬ a.text = Kmin ∧ ¬ a.text = Knot ∧ DlIs a b M 0 0 0:=by
 obtain ⟨a,T,e,ha,hT⟩:=h.head
 have n1:=ha.ne wKif (by decide) (by decide) (by decide)
 have n2:=ha.ne wKmin (by decide) (by decide) (by decide)
 have n3:=ha.ne wKnot (by decide) (by decide) (by decide)
 rw [e]
 by_cases hs : a.kind = 2 ∨ a.text = Ltrue ∨ a.text = Lfalse
 ·rw [hT hs]
  refine ⟨a,t,L,rfl,n1,n2,n3,?_⟩
  unfold DlIs
  by_cases hk : a.kind = 2
  ·exact Or.inr (Or.inr (Or.inl ⟨hk,ht,rfl,rfl,rfl⟩))
  ·rcases hs with hs | hs | hs
   ·exact absurd hs hk
   ·exact Or.inr (Or.inr (Or.inr (Or.inr (Or.inl ⟨hk,hs,ht,rfl,rfl,rfl⟩))))
   ·exact Or.inr (Or.inr (Or.inr (Or.inr (Or.inr (Or.inr (Or.inl ⟨hk,hs,ht,rfl,rfl,rfl⟩))))))
 ·have hb : ∃ b M,T ++ t :: L = b :: M:=by cases T with
   | nil => exact ⟨t,L,rfl⟩
   | cons b T => exact ⟨b,T ++ t :: L,rfl⟩
  obtain ⟨b,M,hM⟩:=hb
  refine ⟨a,b,M,by rw [List.cons_append,hM],n1,n2,n3,Or.inl ⟨fun e => hs (Or.inl e),n2,fun e => hs (Or.inr (Or.inl e)),fun e => hs (Or.inr (Or.inr e)),rfl,rfl,rfl⟩⟩
theorem op_lv : ∀ k,k < 14 → 1 ≤ (opAt k).2.1 ∧ (opAt k).2.1 ≤ 5:=by decide
theorem op_un : ∀ k,k < 14 → ∀ j,j < 14 → (opAt k).1 = (opAt j).1 → k = j:=by decide
theorem op_noOp {k : Nat} (hk : k < 14) {l : Int} (hl : ¬ (opAt k).2.1 = l) : noOp l (opAt k).1:=fun j hj h => by
 have:=op_un k hk j hj h.2
 subst this
 exact hl h.1
theorem op_find : ∀ op : Int,6 ≤ op → op ≤ 19 → ∃ k,k < 14 ∧ (opAt k).2.2 = op ∧ sgT op = (opAt k).1:=by
 intro op h1 h2
 have h9 : op = 6 ∨ op = 7 ∨ op = 8 ∨ op = 9 ∨ op = 10 ∨ op = 11 ∨ op = 12 ∨ op = 13 ∨ op = 14 ∨ op = 15 ∨ op = 16 ∨ op = 17 ∨ op = 18 ∨ op = 19:=by omega
 rcases h9 with rfl | rfl | rfl | rfl | rfl | rfl | rfl | rfl | rfl | rfl | rfl | rfl | rfl | rfl
 ·exact ⟨9,by decide⟩
 ·exact ⟨10,by decide⟩
 ·exact ⟨11,by decide⟩
 ·exact ⟨12,by decide⟩
 ·exact ⟨13,by decide⟩
 ·exact ⟨3,by decide⟩
 ·exact ⟨4,by decide⟩
 ·exact ⟨5,by decide⟩
 ·exact ⟨6,by decide⟩
 ·exact ⟨7,by decide⟩
 ·exact ⟨8,by decide⟩
 ·exact ⟨2,by decide⟩
 ·exact ⟨0,by decide⟩
 ·exact ⟨1,by decide⟩
def stopT (t : Pc) : Prop:=¬ t.text = Kwhen ∧ ¬ t.text = Kwhenot ∧ ¬ t.text = Kfby ∧ ∀ l,noOp l t.text
theorem stop_of {t : Pc} (h1 : ¬ t.text = Kwhen) (h2 : ¬ t.text = Kwhenot) (h3 : ¬ t.text = Kfby) (h4 : ∀ j,j < 14 → ¬ t.text = (opAt j).1) : stopT t:=⟨h1,h2,h3,fun _ j hj h => h4 j hj h.2⟩
theorem stop_cl : stopT (fx Kcl):=stop_of (by decide) (by decide) (by decide) (by decide)
theorem stop_sem : stopT (fx Ksem):=stop_of (by decide) (by decide) (by decide) (by decide)
theorem stop_com : stopT (fx Kcom):=stop_of (by decide) (by decide) (by decide) (by decide)
theorem stop_then : stopT (fx Kthen):=stop_of (by decide) (by decide) (by decide) (by decide)
theorem stop_else : stopT (fx Kelse):=stop_of (by decide) (by decide) (by decide) (by decide)
section
variable {ts : List TK} {W0 : World} {q : Nat} {tv iv iv' : Value} {W1 w : World} {L : List Pc} {xs : List DItem}
theorem climb_up {M L : List Pc} {t : Pc} {c : List DItem} (hO : Does ts W0 q tv 145 [] M c (t :: L)) : ∀ (n l : Nat),l + n = 6 → (∀ k : Nat,l ≤ k → k < 6 → noOp k t.text) → Does ts W0 q tv 114 [.int .i64 l] M c (t :: L)
 | 0,l,h,_ => by
  obtain rfl : l = 6:=by omega
  exact climb_six hO
 | n + 1,l,h,hno => climb_pass (by omega) (climb_up hO n (l + 1) (by omega) (fun k h1 h2 => hno k (by omega) h2)) (hno l (Nat.le_refl _) (by omega))
theorem climb_down {M L : List Pc} {t : Pc} {c : List DItem} (hs : ∀ l,noOp l t.text) : ∀ (n m : Nat),n ≤ m → m < 6 → Does ts W0 q tv 114 [.int .i64 m] M c (t :: L) → Does ts W0 q tv 114 [.int .i64 ((m - n : Nat) : Int)] M c (t :: L):=by
 intro n
 induction n with
 | zero => intro m _ _ h; rw [Nat.sub_zero]; exact h
 | succ n ih =>
  intro m hn hm h
  have h9:=ih m (by omega) hm h
  have e : m - n = m - (n + 1) + 1:=by omega
  rw [e] at h9
  exact climb_pass (l:=m - (n + 1)) (by omega) h9 (hs _)
def Prim (ts : List TK) (W0 : World) (q : Nat) (tv : Value) (I : List Pc) (c : List DItem) : Prop:=∀ M,Does ts W0 q tv 148 [] (I ++ M) c M
def Opn (ts : List TK) (W0 : World) (q : Nat) (tv : Value) (I : List Pc) (c : List DItem) : Prop:=∀ (t : Pc) (L : List Pc),¬ t.text = Kwhen → ¬ t.text = Kwhenot → Does ts W0 q tv 145 [] (I ++ t :: L) c (t :: L)
theorem prim_opd {I : List Pc} {c : List DItem} (h : Prim ts W0 q tv I c) {a : Pc} {T : List Pc} (e : I = a :: T) (h1 : ¬ a.text = Kmin) (h2 : ¬ a.text = Knot) : Opn ts W0 q tv I c:=fun t L g1 g2 => by
 have hs:=sampled_ok h [] (fun _ h => by cases h) (Nat.zero_le _) g1 g2 L
 rw [List.map_nil,List.append_nil] at hs
 subst e
 exact operand_sampled hs h1 h2
theorem Ex.opd {c : List DItem} {ps : List Pc} (h : Ex c ps) (hp : Prim ts W0 q tv (tkP ps) c) : Opn ts W0 q tv (tkP ps) c:=by
 obtain ⟨a,T,e,ha,_⟩:=h.head
 exact prim_opd hp e (ha.ne wKmin (by decide) (by decide) (by decide)) (ha.ne wKnot (by decide) (by decide) (by decide))
theorem xpr_of {I L : List Pc} {c : List DItem} {t a b : Pc} {M : List Pc} (ho : Opn ts W0 q tv I c) (hs : stopT t) (e : I ++ t :: L = a :: b :: M) (h1 : ¬ a.text = Kif) (hd : DlIs a b M 0 0 0) : Does ts W0 q tv 109 [] (I ++ t :: L) c (t :: L):=by
 have h9:=climb_up (ho t L hs.1 hs.2.1) 5 1 rfl (fun k _ _ => hs.2.2.2 k)
 rw [e] at h9 ⊢
 exact expression_climb h1 hd h9
theorem Ex.xpr {c : List DItem} {ps : List Pc} (h : Ex c ps) (hp : Prim ts W0 q tv (tkP ps) c) {t : Pc} (hs : stopT t) (L : List Pc) : Does ts W0 q tv 109 [] (tkP ps ++ t :: L) c (t :: L):=by
 obtain ⟨a,b,M,e,h1,_,_,hd⟩:=h.delay hs.2.2.1 L
 exact xpr_of (h.opd hp) hs e h1 hd
end
end Go.Proofs.YtajabbnlbopcbaaGreatDoor
namespace Go.Proofs.YtajabbnlbopcbaaGreatDoor
open Go.RowKit
set_option linter.unusedSimpArgs false
set_option linter.unusedVariables false
section
variable {ts : List TK} {W0 : World} {q : Nat} {tv iv iv' : Value} {W1 w : World} {L : List Pc} {xs : List DItem}
theorem it_eq {t : DItem} {op val : Int} {nm : ByteArray} (h1 : t.op = op) (h2 : t.val = val) (h3 : t.name = nm) : t = ⟨op,val,nm⟩:=by
 obtain ⟨a,b,c⟩:=t
 simp only at h1 h2 h3
 rw [h1,h2,h3]
theorem DlIs.fst {a b : Pc} {M : List Pc} (h1 : ¬ a.kind = 2) (h2 : ¬ a.text = Kmin) (h3 : ¬ a.text = Ltrue) (h4 : ¬ a.text = Lfalse) : DlIs a b M 0 0 0:=Or.inl ⟨h1,h2,h3,h4,rfl,rfl,rfl⟩
theorem DlIs.min {b : Pc} {T M : List Pc} (hb : headP b) (hT : b.kind = 2 → T = []) {t : Pc} (ht : ¬ t.text = Kfby) (e : T ++ t :: L = M) : DlIs (fx Kmin) b M 0 0 0:=by
 by_cases hk : b.kind = 2
 ·rw [hT hk] at e
  rcases hb with ⟨h,_⟩ | ⟨_,_,h1,h2⟩ | ⟨h,_⟩
  ·omega
  ·exact Or.inr (Or.inr (Or.inr (Or.inr (Or.inr (Or.inr (Or.inr (Or.inr (Or.inr ⟨by decide,rfl,hk,⟨h1,h2⟩,⟨t,L,e.symm,ht⟩,rfl,rfl,rfl⟩))))))))
  ·omega
 ·exact Or.inr (Or.inr (Or.inr (Or.inr (Or.inr (Or.inr (Or.inr (Or.inl ⟨by decide,rfl,hk,rfl,rfl,rfl⟩)))))))
theorem ex_two {T : List Pc} {t : Pc} {L : List Pc} : ∃ b M,T ++ t :: L = b :: M:=by
 cases T with
 | nil => exact ⟨t,L,rfl⟩
 | cons b T => exact ⟨b,T ++ t :: L,rfl⟩
set_option maxHeartbeats 1000000 in
theorem Ex.prim {c : List DItem} {ps : List Pc} (h : Ex c ps) : Prim ts W0 q tv (tkP ps) c:=by
 refine Ex.ind (motive:=fun c ps => Prim ts W0 q tv (tkP ps) c) h ?_
 intro t l ht hl hx ih M
 have hb:=ht.1
 rcases kinds ht with o | o | o | o | o | o | o | o | o | o | o
 ·obtain rfl:=len0 hl (by rw [o]; rfl)
  rw [psT_1 o,it_eq o rfl (it_name hb (by omega))]
  exact primary_num M
 ·obtain rfl:=len0 hl (by rw [o]; rfl)
  rw [psT_2 o]
  rcases it_bit hb (by omega) with hv | hv
  ·rw [it_eq o hv (it_name hb (by omega))]
   exact primary_false M
  ·rw [it_eq o hv (it_name hb (by omega))]
   exact primary_true M
 ·obtain rfl:=len0 hl (by rw [o]; rfl)
  rw [psT_3 o,it_eq o (it_zero hb (by omega)) rfl]
  exact primary_name (plain_parts (ht.2 (Or.inl o))).1.2 M
 ·obtain ⟨x,rfl⟩:=len1 hl (by rw [o]; rfl)
  have hx1:=hx x (by simp)
  have hp1:=ih x (by simp)
  rw [psT_4 o,it_eq o (it_zero hb (by omega)) (it_name hb (by omega))]
  have e : tkP (wvP [[fx Kop,fx Kmin,spP],[fx Kcl]] ([x].map (·.2))) ++ M = fx Kop :: (fx Kmin :: tkP x.2 ++ fx Kcl :: M):=by
   simp only [List.map_cons,List.map_nil,wvP,List.cons_append,List.nil_append,tkP_fx,tkP_sp,tkP_app,List.append_assoc]
   rfl
  rw [e]
  simp only [List.flatMap_cons,List.flatMap_nil,List.append_nil]
  obtain ⟨b,T,eT,hbh,hT⟩:=hx1.head
  have ho : Opn ts W0 q tv (fx Kmin :: tkP x.2) (x.1 ++ [⟨4,0,⟨#[]⟩⟩]):=fun t L g1 g2 => operand_neg (hx1.opd hp1 t L g1 g2)
  refine primary_paren ?_
  refine xpr_of (a:=fx Kmin) (b:=b) (M:=T ++ fx Kcl :: M) ho stop_cl (by rw [eT]; rfl) (by decide) (DlIs.min hbh (fun h => hT (Or.inl h)) (t:=fx Kcl) (L:=M) (by decide) rfl)
 ·obtain ⟨x,rfl⟩:=len1 hl (by rw [o]; rfl)
  have hx1:=hx x (by simp)
  have hp1:=ih x (by simp)
  rw [psT_5 o,it_eq o (it_zero hb (by omega)) (it_name hb (by omega))]
  have e : tkP (wvP [[fx Kop,fx Knot,spP],[fx Kcl]] ([x].map (·.2))) ++ M = fx Kop :: (fx Knot :: tkP x.2 ++ fx Kcl :: M):=by
   simp only [List.map_cons,List.map_nil,wvP,List.cons_append,List.nil_append,tkP_fx,tkP_sp,tkP_app,List.append_assoc]
   rfl
  rw [e]
  simp only [List.flatMap_cons,List.flatMap_nil,List.append_nil]
  obtain ⟨b,M9,hM9⟩:=ex_two (T:=tkP x.2) (t:=fx Kcl) (L:=M)
  have ho : Opn ts W0 q tv (fx Knot :: tkP x.2) (x.1 ++ [⟨5,0,⟨#[]⟩⟩]):=fun t L g1 g2 => operand_not (hx1.opd hp1 t L g1 g2)
  refine primary_paren ?_
  exact xpr_of (a:=fx Knot) (b:=b) (M:=M9) ho stop_cl (by rw [List.cons_append,hM9]) (by decide) (DlIs.fst (by decide) (by decide) (by decide) (by decide))
 ·obtain ⟨x,y,z,rfl⟩:=len3 hl (by rw [o]; rfl)
  have hx1:=hx x (by simp)
  have hx2:=hx y (by simp)
  have hx3:=hx z (by simp)
  rw [psT_20 o,it_eq o (it_zero hb (by omega)) (it_name hb (by omega))]
  have e : tkP (wvP [[fx Kop,fx Kif,spP],[spP,fx Kthen,spP],[spP,fx Kelse,spP],[fx Kcl]] ([x,y,z].map (·.2))) ++ M = fx Kop :: (fx Kif :: (tkP x.2 ++ fx Kthen :: (tkP y.2 ++ fx Kelse :: (tkP z.2 ++ fx Kcl :: M)))):=by
   simp only [List.map_cons,List.map_nil,wvP,List.cons_append,List.nil_append,tkP_fx,tkP_sp,tkP_app,List.append_assoc]
   rfl
  rw [e]
  simp only [List.flatMap_cons,List.flatMap_nil,List.append_nil,List.append_assoc]
  exact primary_paren (expression_if (choice_ok (hx1.xpr (ih x (by simp)) stop_then _) (hx2.xpr (ih y (by simp)) stop_else _) (hx3.xpr (ih z (by simp)) stop_cl _)))
 ·obtain ⟨x,rfl⟩:=len1 hl (by rw [o]; rfl)
  have hx1:=hx x (by simp)
  have hp1:=ih x (by simp)
  have hv:=it_val hb
  rw [o] at hv
  have hv1 : -2147483647 ≤ t.val:=hv.1
  have hv2 : t.val ≤ 2147483647:=hv.2
  have hxp:=hx1.xpr hp1 stop_cl M
  rw [psT_21 o]
  have e : tkP (wvP [fx Kop :: (nvP t.val ++ [spP,fx Kfby,spP]),[fx Kcl]] ([x].map (·.2))) ++ M = fx Kop :: (nvP t.val ++ fx Kfby :: (tkP x.2 ++ fx Kcl :: M)):=by
   simp only [List.map_cons,List.map_nil,wvP,List.cons_append,List.nil_append,tkP_fx,tkP_sp,tkP_app,List.append_assoc,nvP_tk]
   rfl
  rw [e]
  simp only [List.flatMap_cons,List.flatMap_nil,List.append_nil]
  rw [it_eq (t:=t) o rfl (it_name hb (by omega))]
  refine primary_paren ?_
  simp only
  unfold nvP
  by_cases hneg : t.val < 0
  ·rw [if_pos hneg]
   refine expression_fby (a:=fx Kmin) (b:=nuP (-t.val)) (n:=3) (by decide) (Or.inr rfl) ?_ (by simp) hxp
   exact Or.inr (Or.inr (Or.inr (Or.inr (Or.inr (Or.inr (Or.inr (Or.inr (Or.inl ⟨by decide,rfl,rfl,⟨show 0 ≤ -t.val by omega,show -t.val ≤ 2147483647 by omega⟩,⟨fx Kfby,_,rfl,rfl⟩,rfl,show t.val = - -t.val by omega,rfl⟩))))))))
  ·rw [if_neg hneg]
   refine expression_fby (a:=nuP t.val) (b:=fx Kfby) (n:=2) (nu_ne (by omega) wKif) (Or.inl rfl) ?_ (by simp) hxp
   exact Or.inr (Or.inl ⟨rfl,rfl,rfl,rfl,rfl⟩)
 ·obtain ⟨x,rfl⟩:=len1 hl (by rw [o]; rfl)
  have hx1:=hx x (by simp)
  have hp1:=ih x (by simp)
  have hxp:=hx1.xpr hp1 stop_cl M
  rw [psT_22 o]
  have e : tkP (wvP [[fx Kop,tvP t.val,spP,fx Kfby,spP],[fx Kcl]] ([x].map (·.2))) ++ M = fx Kop :: (tvP t.val :: fx Kfby :: (tkP x.2 ++ fx Kcl :: M)):=by
   simp only [List.map_cons,List.map_nil,wvP,List.cons_append,List.nil_append,tkP_fx,tk_tvP,tkP_sp,tkP_app,List.append_assoc]
   rfl
  rw [e]
  simp only [List.flatMap_cons,List.flatMap_nil,List.append_nil]
  refine primary_paren ?_
  rcases it_bit hb (by omega) with hv | hv
  ·rw [it_eq o hv (it_name hb (by omega))]
   refine expression_fby (a:=fx Lfalse) (b:=fx Kfby) (n:=2) (by decide) (Or.inl rfl) ?_ (by simp) hxp
   exact Or.inr (Or.inr (Or.inr (Or.inr (Or.inr (Or.inl ⟨by decide,rfl,rfl,rfl,rfl,rfl⟩)))))
  ·rw [it_eq o hv (it_name hb (by omega))]
   refine expression_fby (a:=fx Ltrue) (b:=fx Kfby) (n:=2) (by decide) (Or.inl rfl) ?_ (by simp) hxp
   exact Or.inr (Or.inr (Or.inr (Or.inl ⟨by decide,rfl,rfl,rfl,rfl,rfl⟩)))
 ·obtain ⟨x,rfl⟩:=len1 hl (by rw [o]; rfl)
  have hx1:=hx x (by simp)
  have hp1:=ih x (by simp)
  have hpl:=ht.2 (by omega)
  rw [psT_23 o]
  have e : tkP (wvP [[fx Kop],[spP,cwP (decide (t.val = 1)),spP,nmP t.name,fx Kcl]] ([x].map (·.2))) ++ M = fx Kop :: ((tkP x.2 ++ [cwP (decide (t.val = 1)),nmP t.name]) ++ fx Kcl :: M):=by
   simp only [List.map_cons,List.map_nil,wvP,List.cons_append,List.nil_append,tkP_fx,tkP_sp,tkP_app,List.append_assoc]
   rfl
  rw [e]
  simp only [List.flatMap_cons,List.flatMap_nil,List.append_nil]
  have hit : t = whI ⟨t.name,decide (t.val = 1)⟩:=by
   unfold whI
   rcases it_bit hb (by omega) with hv | hv
   ·exact it_eq o (by rw [hv]; rfl) rfl
   ·exact it_eq o (by rw [hv]; rfl) rfl
  obtain ⟨a,T,eT,hah,_⟩:=hx1.head
  have ho : Opn ts W0 q tv (tkP x.2 ++ [cwP (decide (t.val = 1)),nmP t.name]) (x.1 ++ [t]):=fun t9 L g1 g2 => by
   have hs:=sampled_ok hp1 [⟨t.name,decide (t.val = 1)⟩] (fun k hk => by rw [List.mem_singleton] at hk; rw [hk]; exact (plain_parts hpl).1.2) (by simp) g1 g2 L
   rw [List.map_singleton,← hit] at hs
   have e2 : tkP x.2 ++ [cwP (decide (t.val = 1)),nmP t.name] ++ t9 :: L = tkP x.2 ++ (List.flatMap cdK [⟨t.name,decide (t.val = 1)⟩] ++ t9 :: L):=by simp [cdK]
   rw [e2]
   rw [eT] at hs ⊢
   exact operand_sampled hs (hah.ne wKmin (by decide) (by decide) (by decide)) (hah.ne wKnot (by decide) (by decide) (by decide))
  have hcw : ¬ (cwP (decide (t.val = 1))).text = Kfby:=by
   cases decide (t.val = 1) <;> decide
  obtain ⟨a,b,M9,e3,h1,_,_,hd⟩:=hx1.delay hcw (nmP t.name :: fx Kcl :: M)
  refine primary_paren ?_
  exact xpr_of ho stop_cl (by rw [← e3]; simp) h1 hd
 ·obtain ⟨x,y,rfl⟩:=len2 (by rw [hl,o]; rfl)
  have hpl:=ht.2 (by omega)
  rw [psT_24 o,it_eq (t:=t) o (it_zero hb (by omega)) rfl]
  have e : tkP (wvP [[fx Kop,fx Kmerge,spP,nmP t.name,spP],[spP],[fx Kcl]] ([x,y].map (·.2))) ++ M = fx Kop :: ((fx Kmerge :: nmP t.name :: (tkP x.2 ++ tkP y.2)) ++ fx Kcl :: M):=by
   simp only [List.map_cons,List.map_nil,wvP,List.cons_append,List.nil_append,tkP_fx,tkP_nm,tkP_sp,tkP_app,List.append_assoc]
   rfl
  simp only
  rw [e]
  simp only [List.flatMap_cons,List.flatMap_nil,List.append_nil,List.append_assoc]
  have hp : Prim ts W0 q tv (fx Kmerge :: nmP t.name :: (tkP x.2 ++ tkP y.2)) (x.1 ++ (y.1 ++ [⟨24,0,t.name⟩])):=fun M => by
   have h1:=ih x (by simp) (tkP y.2 ++ M)
   have h2:=ih y (by simp) M
   simp only [List.cons_append,List.append_assoc]
   exact primary_merge (plain_parts hpl).1.2 h1 h2
  refine primary_paren ?_
  have h9:=xpr_of (L:=M) (prim_opd hp rfl (by decide) (by decide)) stop_cl (a:=fx Kmerge) (b:=nmP t.name) (M:=(tkP x.2 ++ tkP y.2) ++ fx Kcl :: M) rfl (by decide) (DlIs.fst (by decide) (by decide) (by decide) (by decide))
  simpa only [List.cons_append,List.append_assoc] using h9
 ·obtain ⟨x,y,rfl⟩:=len2 (by rw [hl,arN_bin o])
  have hx1:=hx x (by simp)
  have hx2:=hx y (by simp)
  obtain ⟨k,hk,hk2,hk3⟩:=op_find t.op o.1 o.2
  have hlv:=op_lv k hk
  obtain ⟨lv,hlv2⟩ : ∃ lv : Nat,(opAt k).2.1 = lv:=⟨(opAt k).2.1.toNat,by omega⟩
  rw [psT_bin o,it_eq (t:=t) rfl (it_zero hb (by omega)) (it_name hb (by omega))]
  have e : tkP (wvP [[fx Kop],[spP,fx (sgT t.op),spP],[fx Kcl]] ([x,y].map (·.2))) ++ M = fx Kop :: (tkP x.2 ++ fx (sgT t.op) :: (tkP y.2 ++ fx Kcl :: M)):=by
   simp only [List.map_cons,List.map_nil,wvP,List.cons_append,List.nil_append,tkP_fx,tkP_sp,tkP_app,List.append_assoc]
   rfl
  simp only
  rw [e]
  simp only [List.flatMap_cons,List.flatMap_nil,List.append_nil,List.append_assoc]
  refine primary_paren ?_
  have n1 : ∀ j,j < 14 → ¬ (opAt j).1 = Kwhen ∧ ¬ (opAt j).1 = Kwhenot ∧ ¬ (opAt j).1 = Kfby:=by decide
  have n2:=n1 k hk
  rw [hk3]
  obtain ⟨a,b,M9,e3,h1,_,_,hd⟩:=hx1.delay (t:=fx (opAt k).1) n2.2.2 (tkP y.2 ++ fx Kcl :: M)
  have hA:=climb_up (hx1.opd (ih x (by simp)) (fx (opAt k).1) (tkP y.2 ++ fx Kcl :: M) n2.1 n2.2.1) (6 - (lv + 1)) (lv + 1) (by omega) (fun j h1 h2 => op_noOp hk (by omega))
  have hB:=climb_up (hx2.opd (ih y (by simp)) (fx Kcl) M stop_cl.1 stop_cl.2.1) (6 - (lv + 1)) (lv + 1) (by omega) (fun j _ _ => stop_cl.2.2.2 j)
  have hC:=climb_bin (o:=fx (opAt k).1) (l:=lv) (k:=k) (by omega) hk ⟨hlv2,rfl⟩ (fun j hj h9 => by have:=op_un k hk j (by omega) h9.2; omega) hA hB (stop_cl.2.2.2 lv)
  rw [hk2] at hC
  have hD:=climb_down stop_cl.2.2.2 (lv - 1) lv (by omega) (by omega) hC
  rw [show lv - (lv - 1) = 1 by omega] at hD
  rw [e3] at hD ⊢
  exact expression_climb h1 hd hD
end
end Go.Proofs.YtajabbnlbopcbaaGreatDoor
namespace Go.Proofs.YtajabbnlbopcbaaGreatDoor
open Go.RowKit
set_option linter.unusedSimpArgs false
set_option linter.unusedVariables false
def Pz (ts : List TK) (W0 : World) (q : Nat) (tv : Value) (w : World) (L : List Pc) : Prop:=∃ iv,Ps ts W0 q tv w L iv
def PzAns (ts : List TK) (W0 : World) (q : Nat) (tv : Value) (w : World) (v : Value) (L : List Pc) (e : Ending) (w' : World) : Prop:=e = .returned v ∧ Pz ts W0 q tv w' L ∧ Tr q w w'
def rawVar (nm : ByteArray) (ty : Int) (a : Option Addr) (n c : Nat) : Raw 3:=⟨[.string nm,.int .i64 ty,.slice a n c],rfl,fun u hu => by
 simp only [List.mem_cons,List.not_mem_nil,or_false] at hu
 rcases hu with rfl | rfl | rfl <;> rfl⟩
def rawIts (a : Option Addr) (n c : Nat) : Raw 1:=⟨[.slice a n c],rfl,fun u hu => by
 simp only [List.mem_cons,List.not_mem_nil,or_false] at hu
 rw [hu]
 rfl⟩
def rawEq (a1 : Option Addr) (n1 c1 : Nat) (a2 : Option Addr) (n2 c2 : Nat) (x : ByteArray) (a3 : Option Addr) (n3 c3 : Nat) : Raw 4:=⟨[.slice a1 n1 c1,.slice a2 n2 c2,.string x,.slice a3 n3 c3],rfl,fun u hu => by
 simp only [List.mem_cons,List.not_mem_nil,or_false] at hu
 rcases hu with rfl | rfl | rfl | rfl <;> rfl⟩
def rawNd (x : ByteArray) (a1 : Option Addr) (n1 c1 : Nat) (a2 : Option Addr) (n2 c2 : Nat) (a3 : Option Addr) (n3 c3 : Nat) (a4 : Option Addr) (n4 c4 : Nat) : Raw 5:=⟨[.string x,.slice a1 n1 c1,.slice a2 n2 c2,.slice a3 n3 c3,.slice a4 n4 c4],rfl,fun u hu => by
 simp only [List.mem_cons,List.not_mem_nil,or_false] at hu
 rcases hu with rfl | rfl | rfl | rfl | rfl <;> rfl⟩
def SPost (ts : List TK) (W0 : World) (q : Nat) (tv : Value) (X : World) (L : List Pc) (x : ByteArray) (e : Ending) (Y : World) : Prop:=e = .returned (.string x) ∧ Pz ts W0 q tv Y L ∧ Tr q X Y
def VPost (ts : List TK) (W0 : World) (q : Nat) (tv : Value) (X : World) (L : List Pc) (x : DVar) (e : Ending) (Y : World) : Prop:=∃ a n c,e = .returned (.agg #[.string x.name,.int .i64 x.type,.slice a n c]) ∧ Fin (fun w bs => TVar w (rawVar x.name x.type a n c).1 x bs) X.heap.size Y.heap.size Y ∧ Pz ts W0 q tv Y L ∧ Tr q X Y
def IPost (ts : List TK) (W0 : World) (q : Nat) (tv : Value) (X : World) (L : List Pc) (x : List DItem) (e : Ending) (Y : World) : Prop:=∃ a n c,e = .returned (.slice a n c) ∧ Fin (fun w bs => TItems w (rawIts a n c).1 x bs) X.heap.size Y.heap.size Y ∧ Pz ts W0 q tv Y L ∧ Tr q X Y
def EPost (ts : List TK) (W0 : World) (q : Nat) (tv : Value) (X : World) (L : List Pc) (x : DEq) (e : Ending) (Y : World) : Prop:=∃ a1 n1 c1 a2 n2 c2 a3 n3 c3,e = .returned (.agg #[.slice a1 n1 c1,.slice a2 n2 c2,.string x.call,.slice a3 n3 c3]) ∧ Fin (fun w bs => TEq w (rawEq a1 n1 c1 a2 n2 c2 x.call a3 n3 c3).1 x bs) X.heap.size Y.heap.size Y ∧ Pz ts W0 q tv Y L ∧ Tr q X Y
def NPost (ts : List TK) (W0 : World) (q : Nat) (tv : Value) (X : World) (L : List Pc) (x : DNode) (e : Ending) (Y : World) : Prop:=∃ a1 n1 c1 a2 n2 c2 a3 n3 c3 a4 n4 c4,e = .returned (.agg #[.string x.name,.slice a1 n1 c1,.slice a2 n2 c2,.slice a3 n3 c3,.slice a4 n4 c4]) ∧ Fin (fun w bs => TNode w (rawNd x.name a1 n1 c1 a2 n2 c2 a3 n3 c3 a4 n4 c4).1 x bs) X.heap.size Y.heap.size Y ∧ Pz ts W0 q tv Y L ∧ Tr q X Y
theorem wpList_append_run {P : Program} {w w' : World} {ops : Array Oper} {rest : List Oper} {o : Oper} {a : Act} {Q : Exit → Act → World → Prop} (hgd : o.guard = none) (s x : Operand) (t ty : TypeId)
  (ho : o.op = .call { callee:=.builtin .append,args:=#[s,x],argTypes:=#[t,t] }) (hty : o.type = ty) (v xv v' : Value) (hs : a.eval s = v) (hx : a.eval x = xv) (hrun : (Builtin.append_ #[t,t] ty #[v,xv]).run P w = .ok v' w') (h : wpList P ops Q rest (a.put o.dst v') w') : wpList P ops Q (o :: rest) a w:=by
 subst hty
 refine wpList_plain hgd fun K hK => ?_
 unfold Oper.wp execOp
 simp only [ho,resolve,invoke,builtin,Sem.run_bind,Sem.run_pure,Result.andThen_ok,List.map_toArray,List.map_cons,List.map_nil,hs,hx,hrun]
 exact hK _ _ h
section
variable {ts : List TK} {W0 : World} {q : Nat} {tv iv iv' : Value} {W1 w : World} {L : List Pc} {xs : List DItem}
theorem Pz.lt (h : Pz ts W0 q tv w L) : q < w.heap.size:=by
 obtain ⟨iv,h⟩:=h
 exact h.lt
theorem Pz.below {w' : World} (h : Pz ts W0 q tv w L) (hb : Below w.heap.size w w') : Pz ts W0 q tv w' L:=by
 obtain ⟨iv,h⟩:=h
 exact ⟨iv,h.below hb⟩
theorem Pz.grown (h : Pz ts W0 q tv w L) {w' : World} {row : Option Nat} (hg : w.grownBy w' row) {B : Nat} (hr : ∀ b,row = some b → B ≤ b) (hq : q < B) : Pz ts W0 q tv w' L:=by
 obtain ⟨iv,h⟩:=h
 exact ⟨iv,h.grown hg hr hq⟩
theorem pz_takes {t : Pc} (h : Pz ts W0 q tv w (t :: L)) {W : ByteArray} (hW : t.text = W) : Calls Tryz.prog 77 #[.pointer (some ⟨q,0,none⟩),.string W] w (PzAns ts W0 q tv w (.bool true) L):=by
 obtain ⟨iv,h⟩:=h
 refine (takes_yes h hW).mono ?_
 rintro e w1 ⟨rfl,hp,ht⟩
 exact ⟨rfl,⟨iv,hp⟩,ht⟩
theorem pz_takesno {t : Pc} (h : Pz ts W0 q tv w (t :: L)) {W : ByteArray} (hW : ¬ t.text = W) : Calls Tryz.prog 77 #[.pointer (some ⟨q,0,none⟩),.string W] w (PzAns ts W0 q tv w (.bool false) (t :: L)):=by
 obtain ⟨iv,h⟩:=h
 refine (takes_no h hW).mono ?_
 rintro e w1 ⟨rfl,hb⟩
 exact ⟨rfl,⟨iv,h.below hb⟩,Tr.of_below hb⟩
theorem pz_sees {t : Pc} (h : Pz ts W0 q tv w (t :: L)) (W : ByteArray) : Calls Tryz.prog 74 #[.pointer (some ⟨q,0,none⟩),.string W] w (PzAns ts W0 q tv w (.bool (decide (t.text = W))) (t :: L)):=by
 obtain ⟨iv,h⟩:=h
 refine (sees_ok h W).mono ?_
 rintro e w1 ⟨rfl,hb⟩
 exact ⟨rfl,⟨iv,h.below hb⟩,Tr.of_below hb⟩
theorem pz_want {t : Pc} (h : Pz ts W0 q tv w (t :: L)) {W : ByteArray} (hW : t.text = W) : Calls Tryz.prog 72 #[.pointer (some ⟨q,0,none⟩),.string W] w (PzAns ts W0 q tv w (.tuple #[]) L):=by
 obtain ⟨iv,h⟩:=h
 refine (want_ok h hW).mono ?_
 rintro e w1 ⟨rfl,hp,ht⟩
 exact ⟨rfl,⟨iv,hp⟩,ht⟩
theorem pz_name {s : ByteArray} (h : Pz ts W0 q tv w (nmP s :: L)) (hz : s.size ≤ 40) : Calls Tryz.prog 73 #[.pointer (some ⟨q,0,none⟩)] w (PzAns ts W0 q tv w (.string s) L):=by
 obtain ⟨iv,h⟩:=h
 refine (name_ok h rfl (show s.size ≤ 20000 by omega)).mono ?_
 rintro e w1 ⟨rfl,hp,ht⟩
 exact ⟨rfl,⟨iv,hp⟩,ht⟩
set_option maxHeartbeats 1000000 in
theorem code_ok {c : List DItem} {ps : List Pc} (hx : Ex c ps) (hl : c.length ≤ 3000) {t : Pc} (hs : stopT t) (h : Pz ts W0 q tv w (tkP ps ++ t :: L)) :
  Calls Tryz.prog 99 #[.pointer (some ⟨q,0,none⟩)] w (IPost ts W0 q tv w (t :: L) c):=by
 obtain ⟨iv,h⟩:=h
 obtain ⟨i,hblk,hdr,hil⟩:=h.at_
 obtain ⟨W2,hW2⟩ : ∃ W2,W2 = w.setCell ⟨q,2,none⟩ (.slice none 0 0):=⟨_,rfl⟩
 have hT : Tr q w W2:=hW2 ▸ Tr.setCell _ _ _ _
 have hsz : W2.heap.size = w.heap.size:=by rw [hW2]; simp [World.setCell]
 have hpx : Px ts W0 q tv W2 W2 (tkP ps ++ t :: L) [] (.slice none 0 0):=by
  refine ⟨⟨h.toks,h.low,h.few,h.good,h.old.trans (hT.below h.old.size h.low),i,?_,hdr,hil⟩,OwnV.nil _ _,Tr.refl _ _,by rw [hsz]; exact hblk.lt⟩
  rw [hW2]
  exact hblk.set 2 _
 have HC:=hide (hx.xpr (hx.prim) hs L W2 W2 [] _ hpx (by simp; omega))
 have HI:=hide hx.items
 have c2:=hblk.cell (i:=2) (v:=iv) rfl
 have f2:=hblk.free 2
 have l2:=hblk.lt
 have HT:=hide hT
 have HSZ:=hide hsz
 have HW2:=hide hW2
 clear h hblk hdr hil hx hpx hT hsz hW2
 rw [List.nil_append] at HC
 obtain ⟨PO,hPO⟩ : ∃ PO : Ending → World → Prop,PO = IPost ts W0 q tv w (t :: L) c:=⟨_,rfl⟩
 rw [← hPO]
 have HPO:=hide hPO
 clear hPO
 go_enter Tryz.func99,Tryz.ntmps99
 go_wp2_with fail
 rw [← uh HW2]
 refine (uh HC).mono ?_
 rintro e w3 ⟨iv3,rfl,hp3,hk3⟩
 obtain ⟨i3,hb3,_,_⟩:=hp3.ps.at_
 obtain ⟨a3,c3,hs3⟩:=hp3.own.slice
 subst hs3
 have y2:=hb3.cell (i:=2) (v:=.slice a3 c.length c3) rfl
 have HF : Hid (PO (.returned (.slice a3 c.length c3)) w3):=by
  show PO _ _
  rw [uh HPO]
  refine ⟨a3,c.length,c3,rfl,?_,⟨_,hp3.ps⟩,(uh HT).trans hp3.tr⟩
  have hok : ∀ x ∈ c,okI x:=fun x hx9 => by
   have h9:=uh HI x hx9
   have h8:=it_val h9.1
   have h7:=itP_op h9
   have h6 : x.name.size ≤ 40:=by
    have:=((it_iff x).1 h9.1).2.2
    unfold nmB at this
    split at this
    ·exact name_size _ this
    ·have:=of_decide_eq_true this
     omega
   have b1 : -2147483647 ≤ loI x.op:=by unfold loI; split <;> omega
   have b2 : hiI x.op ≤ 2147483647:=by unfold hiI; repeat' split <;> try omega
   exact ⟨by unfold Len; omega,⟨by omega,by omega⟩,⟨by omega,by omega⟩⟩
  have hown : OwnV elItem w3 w.heap.size (.slice a3 c.length c3) c:=by
   have:=hp3.own
   rw [uh HSZ] at this
   exact this
  obtain ⟨bs,q1,q2,q3⟩:=hown.fin (ok:=okI) hok (by simp [elItem]; omega)
  exact ⟨bs,⟨_,rfl,q1⟩,q2,q3⟩
 clear hp3 hk3 hb3
 go_wp2
 first | go_ret | skip
 exact uh HF
set_option maxHeartbeats 1000000 in
theorem port_ok {v : DVar} (hn : v.name.size ≤ 40) (ht : v.type = 1 ∨ v.type = 2) (hc : v.clock = []) (h : Pz ts W0 q tv w (nmP v.name :: fx Kcol :: fx (if v.type = 2 then Kbool else Kint) :: L)) :
  Calls Tryz.prog 76 #[.pointer (some ⟨q,0,none⟩)] w (VPost ts W0 q tv w L v):=by
 obtain ⟨nm,ty,cl⟩:=v
 simp only at *
 subst hc
 have hA : Below w.heap.size w (w.alloc (.cells #[.string ⟨#[]⟩,.int .i64 0,.slice none 0 0] 67)):=(Below.refl _ _).alloc (Nat.le_refl _) _
 have hbx:=blk_box w #[.string ⟨#[]⟩,.int .i64 0,.slice none 0 0] 67
 have hql:=h.lt
 have HN:=hide (pz_name (h.below hA) hn)
 have HT0:=hide (Tr.of_below (r:=q) hA)
 have HBX:=hide hbx
 have hne : w.heap.size ≠ q:=by omega
 obtain ⟨PO,hPO⟩ : ∃ PO : Ending → World → Prop,PO = VPost ts W0 q tv w L ⟨nm,ty,[]⟩:=⟨_,rfl⟩
 rw [← hPO]
 have HPO:=hide hPO
 have HFN : Hid (∀ X,Pz ts W0 q tv X L → Tr q w X → BlkAt X w.heap.size 67 #[.string ⟨#[]⟩,.int .i64 0,.slice none 0 0] → BlkAt (((X.setCell ⟨w.heap.size,0,none⟩ (.string nm)).setCell ⟨w.heap.size,1,none⟩ (.int .i64 ty)).setCell ⟨w.heap.size,2,none⟩ (.slice none 0 0)) w.heap.size 67 #[.string nm,.int .i64 ty,.slice none 0 0] ∧ PO (.returned (.agg #[.string nm,.int .i64 ty,.slice none 0 0])) (((X.setCell ⟨w.heap.size,0,none⟩ (.string nm)).setCell ⟨w.heap.size,1,none⟩ (.int .i64 ty)).setCell ⟨w.heap.size,2,none⟩ (.slice none 0 0))):=by
  intro X hp htr hb
  refine ⟨hb.set3,?_⟩
  rw [uh HPO]
  have hT3:=Tr.set3 w.heap.size X (.string nm) (.int .i64 ty) (.slice none 0 0)
  refine ⟨none,0,0,rfl,⟨[],⟨_,rfl,by unfold Len; simp only; omega,by unfold I64; simp only; omega,OwnV.nil _ _,(fun x hx => absurd hx (List.not_mem_nil)),(by simp),rfl⟩,List.nodup_nil,(fun b hb => absurd hb (List.not_mem_nil))⟩,?_,?_⟩
  ·obtain ⟨iv9,hp9⟩:=hp
   obtain ⟨i9,g1,g2,g3⟩:=hp9.at_
   exact ⟨iv9,hp9.toks,hp9.low,hp9.few,hp9.good,hp9.old.trans (hT3.below hp9.old.size (by have:=hp9.low; omega)),i9,hT3.blk g1 (fun e => hne e.symm),g2,g3⟩
  ·exact ⟨hT3.os.trans htr.os,hT3.tape.trans htr.tape,hT3.output.trans htr.output,Nat.le_trans htr.size hT3.size,fun k hk hn => (hT3.block k (by have:=htr.size; omega) (by omega)).trans (htr.block k hk hn)⟩
 clear h hA hbx hPO
 go_enter Tryz.func76,Tryz.ntmps76
 go_wp2_with fail
 refine (uh HN).mono ?_
 rintro e w1 ⟨rfl,hp1,ht1⟩
 have HC1:=hide (pz_want hp1 (W:=Kcol) rfl)
 have HT1:=hide ((uh HT0).trans ht1)
 have HB1:=hide (ht1.blk (uh HBX) hne)
 clear hp1 ht1 HN HT0 HBX
 go_wp2_with fail
 refine (uh HC1).mono ?_
 rintro e w2 ⟨rfl,hp2,ht2⟩
 have HP2:=hide hp2
 have HT2:=hide ((uh HT1).trans ht2)
 have HB2:=hide (ht2.blk (uh HB1) hne)
 clear hp2 ht2 HC1 HT1 HB1
 rcases ht with rfl | rfl
 ·have HC2:=hide (pz_takesno (uh HP2) (W:=Kbool) (show ¬ Kint = Kbool by decide))
  go_wp2_with fail
  refine (uh HC2).mono ?_
  rintro e w3 ⟨rfl,hp3,ht3⟩
  have HC3:=hide (pz_want hp3 (W:=Kint) rfl)
  have HT3:=hide ((uh HT2).trans ht3)
  have HB3:=hide (ht3.blk (uh HB2) hne)
  clear hp3 ht3 HC2 HT2 HB2
  go_wp2_with fail
  refine (uh HC3).mono ?_
  rintro e w4 ⟨rfl,hp4,ht4⟩
  have hb4:=ht4.blk (uh HB3) hne
  obtain ⟨hr,hf⟩:=uh HFN w4 hp4 ((uh HT3).trans ht4) hb4
  have y0:=hb4.cell (i:=0) (v:=.string ⟨#[]⟩) rfl
  have y1:=hb4.cell (i:=1) (v:=.int .i64 0) rfl
  have y2:=hb4.cell (i:=2) (v:=.slice none 0 0) rfl
  have g0:=hb4.free 0
  have g1:=hb4.free 1
  have g2:=hb4.free 2
  have l4:=hb4.lt
  have r0:=hr.cell (i:=0) (v:=.string nm) rfl
  have r1:=hr.cell (i:=1) (v:=.int .i64 1) rfl
  have r2:=hr.cell (i:=2) (v:=.slice none 0 0) rfl
  have HF:=hide hf
  clear hp4 ht4 hb4 hr hf HFN
  go_wp2
  refine bodyPost_ret ?_ rfl (uh HF)
  simp [results,Tryz.results76,go_sem,r0,r1,r2]
 ·have HC2:=hide (pz_takes (uh HP2) (W:=Kbool) rfl)
  go_wp2_with fail
  refine (uh HC2).mono ?_
  rintro e w4 ⟨rfl,hp4,ht4⟩
  have hb4:=ht4.blk (uh HB2) hne
  obtain ⟨hr,hf⟩:=uh HFN w4 hp4 ((uh HT2).trans ht4) hb4
  have y0:=hb4.cell (i:=0) (v:=.string ⟨#[]⟩) rfl
  have y1:=hb4.cell (i:=1) (v:=.int .i64 0) rfl
  have y2:=hb4.cell (i:=2) (v:=.slice none 0 0) rfl
  have g0:=hb4.free 0
  have g1:=hb4.free 1
  have g2:=hb4.free 2
  have l4:=hb4.lt
  have r0:=hr.cell (i:=0) (v:=.string nm) rfl
  have r1:=hr.cell (i:=1) (v:=.int .i64 2) rfl
  have r2:=hr.cell (i:=2) (v:=.slice none 0 0) rfl
  have HF:=hide hf
  clear hp4 ht4 hb4 hr hf HFN
  go_wp2
  refine bodyPost_ret ?_ rfl (uh HF)
  simp [results,Tryz.results76,go_sem,r0,r1,r2]
end
end Go.Proofs.YtajabbnlbopcbaaGreatDoor
