import Derived.Test.YtajabbnlbopcbaaGreatDoorLX2
namespace Go.Proofs.YtajabbnlbopcbaaGreatDoor
open Go.RowKit
set_option linter.unusedSimpArgs false
set_option linter.unusedVariables false
structure Cur where
 at_ : Nat
 room : Int
 seed : Nat
def okB (n : Nat) (c : Cur) : Prop:=c.at_ + n ≤ 1000000000 ∧ (n : Int) - 1000000000 ≤ c.room ∧ c.room ≤ 100 ∧ c.seed < 2147483648
theorem okB.less {n m : Nat} {c : Cur} (h : okB n c) (hm : m ≤ n) : okB m c:=by
 obtain ⟨h1,h2,h3,h4⟩:=h
 exact ⟨by omega,by omega,h3,h4⟩
def byF (code : List Int) (c : Cur) : Nat × Cur :=
 if 100 + 40 * code.length < c.at_ + 1 then (0,⟨c.at_ + 1,c.room,c.seed⟩)
 else if code.length < c.at_ + 1 then ((c.seed * 1103515245 + 12345) % 2147483648 / 65536 % 256,⟨c.at_ + 1,c.room,(c.seed * 1103515245 + 12345) % 2147483648⟩)
 else ((code.getD c.at_ 0).toNat,⟨c.at_ + 1,c.room,(c.seed * 31 + (code.getD c.at_ 0).toNat + 7) % 2147483648⟩)
def pkF (code : List Int) (n : Nat) (c : Cur) : Nat × Cur:=if n ≤ 1 then (0,c) else ((byF code c).1 % n,(byF code c).2)
theorem byF_ok {code : List Int} {c : Cur} {n : Nat} (h : okB (n + 1) c) : okB n (byF code c).2:=by
 obtain ⟨h1,h2,h3,h4⟩:=h
 unfold byF
 split
 ·exact ⟨by simp only; omega,by simp only; omega,h3,h4⟩
 ·split
  ·exact ⟨by simp only; omega,by simp only; omega,h3,by simp only; omega⟩
  ·exact ⟨by simp only; omega,by simp only; omega,h3,by simp only; omega⟩
theorem pkF_ok {code : List Int} {c : Cur} {n m : Nat} (h : okB (n + 1) c) : okB n (pkF code m c).2:=by
 unfold pkF
 split
 ·exact h.less (by omega)
 ·exact byF_ok h
theorem pkF_lt (code : List Int) {m : Nat} (c : Cur) (h : 0 < m) : (pkF code m c).1 < m:=by
 unfold pkF
 split
 ·exact h
 ·exact Nat.mod_lt _ h
theorem pkF_room (code : List Int) (m : Nat) (c : Cur) : (pkF code m c).2.room = c.room:=by
 unfold pkF byF
 repeat' split
 all_goals rfl
def valsL : List Int:=[0,1,2,3,7,100,2147483647,65536,5,10]
def opsL : List Int:=[6,7,8,6,9,10]
def noN : ByteArray:=⟨#[]⟩
def cnF (code : List Int) (kind : Int) (c : Cur) : List DItem × Cur :=
 if kind = 2 then ([⟨2,(pkF code 2 c).1,noN⟩],(pkF code 2 c).2) else ([⟨1,valsL.getD (pkF code 10 c).1 0,noN⟩],(pkF code 10 c).2)
def fdB (rank : Nat) (kind : Int) (k : List DCond) (late : Bool) (i : Nat) (v : DVar) : Bool:=(late || decide (i < rank)) && decide (v.type = kind) && sameC v.clock k
def fnTo (vs : List DVar) (rank : Nat) (kind : Int) (k : List DCond) (late : Bool) : Nat → List ByteArray
 | 0 => []
 | i + 1 => fnTo vs rank kind k late i ++ (if h : i < vs.length then (if fdB rank kind k late i vs[i] then [vs[i].name] else []) else [])
def fnF (vs : List DVar) (rank : Nat) (kind : Int) (k : List DCond) (late : Bool) : List ByteArray:=fnTo vs rank kind k late vs.length
def lfF (code : List Int) (names : List ByteArray) (kind : Int) (c : Cur) : List DItem × Cur :=
 if names.length = 0 then cnF code kind c else ([⟨3,0,names.getD (pkF code names.length c).1 noN⟩],(pkF code names.length c).2)
def dcR (c : Cur) : Cur:=⟨c.at_,c.room - 1,c.seed⟩
def whJ (c : DCond) : DItem:=⟨23,if c.on = true then 1 else 0,c.name⟩
abbrev Rec:=Cur → Int → List DCond → Bool → List DItem × Cur
def bin2 (r : Rec) (c : Cur) (kind : Int) (k : List DCond) (late : Bool) : List DItem × Cur:=((r c kind k late).1 ++ (r (r c kind k late).2 kind k late).1,(r (r c kind k late).2 kind k late).2)
def fbF (code : List Int) (r : Rec) (c : Cur) (kind : Int) (k : List DCond) : List DItem × Cur :=
 if kind = 2 then ((r (pkF code 2 (pkF code 9 c).2).2 kind k true).1 ++ [⟨22,(pkF code 2 (pkF code 9 c).2).1,noN⟩],(r (pkF code 2 (pkF code 9 c).2).2 kind k true).2)
 else ((r (pkF code 9 c).2 kind k true).1 ++ [⟨21,((pkF code 9 c).1 : Int) - 4,noN⟩],(r (pkF code 9 c).2 kind k true).2)
def ifF (r : Rec) (c : Cur) (kind : Int) (k : List DCond) (late : Bool) : List DItem × Cur :=
 ((r c 2 k late).1 ++ (bin2 r (r c 2 k late).2 kind k late).1 ++ [⟨20,0,noN⟩],(bin2 r (r c 2 k late).2 kind k late).2)
def whF (r : Rec) (c : Cur) (kind : Int) (k : List DCond) (late : Bool) (h : 0 < k.length) : List DItem × Cur :=
 ((r c kind (k.take (k.length - 1)) late).1 ++ [whJ (k[k.length - 1]'(by omega))],(r c kind (k.take (k.length - 1)) late).2)
def mgF (code : List Int) (r : Rec) (c : Cur) (kind : Int) (k : List DCond) (late : Bool) (names : List ByteArray) : List DItem × Cur :=
 let p:=pkF code names.length c
 let b:=names.getD p.1 noN
 let x:=r p.2 kind (k ++ [⟨b,true⟩]) late
 let y:=r x.2 kind (k ++ [⟨b,false⟩]) late
 (x.1 ++ y.1 ++ [⟨24,0,b⟩],y.2)
def rsF (code : List Int) (r : Rec) (c : Cur) (kind : Int) (k : List DCond) (late : Bool) : List DItem × Cur :=
 if kind = 1 then
  (let p:=pkF code 6 c
  if p.1 = 5 then ((r p.2 kind k late).1 ++ [⟨4,0,noN⟩],(r p.2 kind k late).2)
  else ((bin2 r p.2 kind k late).1 ++ [⟨opsL.getD (pkF code 6 (bin2 r p.2 kind k late).2).1 0,0,noN⟩],(pkF code 6 (bin2 r p.2 kind k late).2).2))
 else
  (let p:=pkF code 4 c
  if p.1 = 0 then ((r p.2 kind k late).1 ++ [⟨5,0,noN⟩],(r p.2 kind k late).2)
  else if p.1 = 1 then ((bin2 r p.2 kind k late).1 ++ [⟨17 + (pkF code 3 (bin2 r p.2 kind k late).2).1,0,noN⟩],(pkF code 3 (bin2 r p.2 kind k late).2).2)
  else ((bin2 r p.2 1 k late).1 ++ [⟨11 + (pkF code 6 (bin2 r p.2 1 k late).2).1,0,noN⟩],(pkF code 6 (bin2 r p.2 1 k late).2).2))
def exA (code : List Int) (vs : List DVar) (rank : Nat) (r : Rec) (how : Nat) (c : Cur) (kind : Int) (k : List DCond) (late : Bool) : List DItem × Cur :=
 if how = 2 then cnF code kind c
 else if how = 3 ∨ how = 4 then fbF code r c kind k
 else if how = 5 then ifF r c kind k late
 else if how = 6 ∨ how = 7 then (if h : 0 < k.length then whF r c kind k late h else rsF code r c kind k late)
 else if how = 8 ∨ how = 9 then (if 0 < (fnF vs rank 2 k late).length ∧ k.length < 4 then mgF code r c kind k late (fnF vs rank 2 k late) else rsF code r c kind k late)
 else rsF code r c kind k late
def exF (code : List Int) (vs : List DVar) (rank : Nat) : Nat → Rec
 | 0,c,kind,k,late => lfF code (fnF vs rank kind k late) kind (pkF code 12 (dcR c)).2
 | f + 1,c,kind,k,late =>
  if (pkF code 12 (dcR c)).2.room ≤ 0 ∨ (pkF code 12 (dcR c)).1 ≤ 1 then lfF code (fnF vs rank kind k late) kind (pkF code 12 (dcR c)).2
  else exA code vs rank (exF code vs rank f) (pkF code 12 (dcR c)).1 (pkF code 12 (dcR c)).2 kind k late
def szE : Nat → Nat
 | 0 => 1
 | f + 1 => 3 * szE f + 1
def kE : Nat → Nat
 | 0 => 3
 | f + 1 => 3 * kE f + 6
def vsOK (vs : List DVar) : Prop:=∀ v ∈ vs,okW v
def kOK (k : List DCond) : Prop:=∀ c ∈ k,plainB c.name = true
def Dr (n m : Nat) (c : Cur) (x : List DItem × Cur) : Prop:=(∃ ps,Ex x.1 ps) ∧ x.1.length ≤ m ∧ ∀ j,okB (j + n) c → okB j x.2
theorem Ex.leaf {t : DItem} (ht : itP t) (h0 : arN t.op = 0) : ∃ ps,Ex [t] ps:=⟨_,Ex.mk (l:=[]) ht (by rw [h0]; rfl) (fun x hx => absurd hx (List.not_mem_nil))⟩
theorem Ex.one {t : DItem} (ht : itP t) (h0 : arN t.op = 1) {c : List DItem} (h : ∃ ps,Ex c ps) : ∃ ps,Ex (c ++ [t]) ps:=by
 obtain ⟨p,hp⟩:=h
 have h9:=Ex.mk (l:=[(c,p)]) ht (by rw [h0]; rfl) (fun x hx => by rw [List.mem_singleton] at hx; rw [hx]; exact hp)
 simp only [List.flatMap_cons,List.flatMap_nil,List.append_nil] at h9
 exact ⟨_,h9⟩
theorem Ex.two {t : DItem} (ht : itP t) (h0 : arN t.op = 2) {c d : List DItem} (h : ∃ ps,Ex c ps) (k : ∃ ps,Ex d ps) : ∃ ps,Ex (c ++ d ++ [t]) ps:=by
 obtain ⟨p,hp⟩:=h
 obtain ⟨q,hq⟩:=k
 have h9:=Ex.mk (l:=[(c,p),(d,q)]) ht (by rw [h0]; rfl) (fun x hx => by
  rcases List.mem_cons.1 hx with rfl | hx
  ·exact hp
  ·rw [List.mem_singleton] at hx; rw [hx]; exact hq)
 simp only [List.flatMap_cons,List.flatMap_nil,List.append_nil] at h9
 exact ⟨_,h9⟩
theorem Ex.three {t : DItem} (ht : itP t) (h0 : arN t.op = 3) {c d e : List DItem} (h : ∃ ps,Ex c ps) (k : ∃ ps,Ex d ps) (l : ∃ ps,Ex e ps) : ∃ ps,Ex (c ++ (d ++ e) ++ [t]) ps:=by
 obtain ⟨p,hp⟩:=h
 obtain ⟨q,hq⟩:=k
 obtain ⟨r,hr⟩:=l
 have h9:=Ex.mk (l:=[(c,p),(d,q),(e,r)]) ht (by rw [h0]; rfl) (fun x hx => by
  rcases List.mem_cons.1 hx with rfl | hx
  ·exact hp
  rcases List.mem_cons.1 hx with rfl | hx
  ·exact hq
  ·rw [List.mem_singleton] at hx; rw [hx]; exact hr)
 simp only [List.flatMap_cons,List.flatMap_nil,List.append_nil] at h9
 exact ⟨_,h9⟩
theorem itP_of {op val : Int} (ho : 1 ≤ op ∧ op ≤ 24) (hn : ¬ (op = 3 ∨ op = 23 ∨ op = 24)) (hv : loI op ≤ val ∧ val ≤ hiI op) : itP ⟨op,val,noN⟩:=by
 refine ⟨(it_iff _).2 ⟨ho,decide_eq_true hv,?_⟩,fun h => absurd h hn⟩
 unfold nmB
 rw [if_neg hn]
 rfl
theorem itP_nm {op val : Int} {nm : ByteArray} (hn : op = 3 ∨ op = 23 ∨ op = 24) (hv : loI op ≤ val ∧ val ≤ hiI op) (hp : plainB nm = true) : itP ⟨op,val,nm⟩:=by
 refine ⟨(it_iff _).2 ⟨show 1 ≤ op ∧ op ≤ 24 by omega,decide_eq_true hv,?_⟩,fun _ => hp⟩
 unfold nmB
 rw [if_pos hn]
 exact plain_name hp
theorem itP_z {op : Int} (ho : 1 ≤ op ∧ op ≤ 24) (hn : ¬ (op = 3 ∨ op = 23 ∨ op = 24)) : itP ⟨op,0,noN⟩:=itP_of ho hn (by unfold loI hiI; repeat' split <;> omega)
theorem arN_bn {op : Int} (h : 6 ≤ op ∧ op ≤ 19) : arN op = 2:=by
 unfold arN ocI
 rw [if_neg (by omega),if_neg (by omega),if_neg (by omega)]
 rfl
theorem cnF_dr {code : List Int} {kind : Int} (c : Cur) : Dr 1 1 c (cnF code kind c):=by
 unfold cnF
 split
 ·have h:=pkF_lt code (m:=2) c (by omega)
  exact ⟨Ex.leaf (itP_of (by omega) (by omega) (by simp [loI,hiI]; omega)) rfl,Nat.le_refl _,fun j hj => pkF_ok hj⟩
 ·have h:=pkF_lt code (m:=10) c (by omega)
  refine ⟨Ex.leaf (itP_of (by omega) (by omega) ?_) rfl,Nat.le_refl _,fun j hj => pkF_ok hj⟩
  generalize (pkF code 10 c).1 = i at h
  have h9 : ∀ i,i < 10 → 0 ≤ valsL.getD i 0 ∧ valsL.getD i 0 ≤ 2147483647:=by decide
  exact h9 i h
theorem fnTo_ok {vs : List DVar} (hv : vsOK vs) (rank : Nat) (kind : Int) (k : List DCond) (late : Bool) : ∀ n,∀ s ∈ fnTo vs rank kind k late n,plainB s = true
 | 0,s,h => absurd h (List.not_mem_nil)
 | n + 1,s,h => by
  rw [fnTo] at h
  rcases List.mem_append.1 h with h | h
  ·exact fnTo_ok hv rank kind k late n s h
  ·split at h
   ·split at h
    ·rw [List.mem_singleton] at h
     rw [h]
     exact (hv _ (List.getElem_mem _)).1
    ·exact absurd h (List.not_mem_nil)
   ·exact absurd h (List.not_mem_nil)
theorem fnTo_len (vs : List DVar) (rank : Nat) (kind : Int) (k : List DCond) (late : Bool) : ∀ n,(fnTo vs rank kind k late n).length ≤ n
 | 0 => Nat.le_refl _
 | n + 1 => by
  have:=fnTo_len vs rank kind k late n
  rw [fnTo,List.length_append]
  split
  ·split <;> simp <;> omega
  ·simp; omega
theorem getD_mem {l : List ByteArray} {i : Nat} (h : i < l.length) : l.getD i noN ∈ l:=by
 rw [List.getD_eq_getElem?_getD,List.getElem?_eq_getElem h]
 exact List.getElem_mem h
theorem lfF_dr {code : List Int} {names : List ByteArray} (hn : ∀ s ∈ names,plainB s = true) {kind : Int} (c : Cur) : Dr 1 1 c (lfF code names kind c):=by
 unfold lfF
 split
 ·exact cnF_dr c
 ·rename_i h0
  have h:=pkF_lt code (m:=names.length) c (by omega)
  exact ⟨Ex.leaf (itP_nm (Or.inl rfl) (by simp [loI,hiI]) (hn _ (getD_mem h))) rfl,Nat.le_refl _,fun j hj => pkF_ok hj⟩
def DrR (n m : Nat) (r : Rec) : Prop:=∀ c kind k late,kOK k → Dr n m c (r c kind k late)
theorem bin2_dr {n m : Nat} {r : Rec} (hr : DrR n m r) {c : Cur} {kind : Int} {k : List DCond} {late : Bool} (hk : kOK k) : (∃ x y,(bin2 r c kind k late).1 = x ++ y ∧ (∃ ps,Ex x ps) ∧ (∃ ps,Ex y ps)) ∧ (bin2 r c kind k late).1.length ≤ 2 * m ∧ ∀ j,okB (j + 2 * n) c → okB j (bin2 r c kind k late).2:=by
 have h1:=hr c kind k late hk
 have h2:=hr (r c kind k late).2 kind k late hk
 refine ⟨⟨_,_,rfl,h1.1,h2.1⟩,?_,fun j hj => h2.2.2 j (h1.2.2 _ (hj.less (by omega)))⟩
 have:=h1.2.1
 have:=h2.2.1
 simp only [bin2,List.length_append]
 omega
theorem rsF_dr {n m : Nat} {code : List Int} {r : Rec} (hr : DrR n m r) {c : Cur} {kind : Int} {k : List DCond} {late : Bool} (hk : kOK k) : Dr (2 * n + 2) (2 * m + 1) c (rsF code r c kind k late):=by
 unfold rsF
 have one : ∀ (i : Nat) (op : Int),itP ⟨op,0,noN⟩ → arN op = 1 → Dr (2 * n + 2) (2 * m + 1) c ((r (pkF code i c).2 kind k late).1 ++ [⟨op,0,noN⟩],(r (pkF code i c).2 kind k late).2):=by
  intro i op ht h0
  have h1:=hr (pkF code i c).2 kind k late hk
  refine ⟨Ex.one ht h0 h1.1,?_,fun j hj => h1.2.2 j (pkF_ok (hj.less (by omega)))⟩
  have:=h1.2.1
  simp only [List.length_append,List.length_singleton]
  omega
 have two : ∀ (i i2 : Nat) (kd op : Int),itP ⟨op,0,noN⟩ → arN op = 2 → Dr (2 * n + 2) (2 * m + 1) c ((bin2 r (pkF code i c).2 kd k late).1 ++ [⟨op,0,noN⟩],(pkF code i2 (bin2 r (pkF code i c).2 kd k late).2).2):=by
  intro i i2 kd op ht h0
  obtain ⟨⟨x,y,e,hx,hy⟩,h2,h3⟩:=bin2_dr hr (c:=(pkF code i c).2) (kind:=kd) (late:=late) hk
  refine ⟨?_,?_,fun j hj => pkF_ok (h3 _ (pkF_ok (hj.less (by omega))))⟩
  ·rw [e]
   exact Ex.two ht h0 hx hy
  ·simp only [List.length_append,List.length_singleton]
   omega
 split
 ·simp only
  split
  ·exact one 6 4 (itP_z (by omega) (by omega)) rfl
  ·have h:=pkF_lt code (m:=6) (bin2 r (pkF code 6 c).2 kind k late).2 (by omega)
   have h9 : ∀ i,i < 6 → 6 ≤ opsL.getD i 0 ∧ opsL.getD i 0 ≤ 10:=by decide
   have h8:=h9 _ h
   exact two 6 6 kind _ (itP_z (by omega) (by omega)) (arN_bn (by omega))
 ·simp only
  split
  ·exact one 4 5 (itP_z (by omega) (by omega)) rfl
  ·split
   ·have h:=pkF_lt code (m:=3) (bin2 r (pkF code 4 c).2 kind k late).2 (by omega)
    exact two 4 3 kind _ (itP_z (by omega) (by omega)) (arN_bn (by omega))
   ·have h:=pkF_lt code (m:=6) (bin2 r (pkF code 4 c).2 1 k late).2 (by omega)
    exact two 4 6 1 _ (itP_z (by omega) (by omega)) (arN_bn (by omega))
theorem kOK_take {k : List DCond} (h : kOK k) (n : Nat) : kOK (k.take n):=fun c hc => h c (List.mem_of_mem_take hc)
theorem kOK_snoc {k : List DCond} (h : kOK k) {b : ByteArray} (hb : plainB b = true) (on : Bool) : kOK (k ++ [⟨b,on⟩]):=fun c hc => by
 rcases List.mem_append.1 hc with hc | hc
 ·exact h c hc
 ·rw [List.mem_singleton] at hc; rw [hc]; exact hb
theorem exA_dr {n m : Nat} {code : List Int} {vs : List DVar} (hv : vsOK vs) {rank : Nat} {r : Rec} (hr : DrR n m r) {how : Nat} {c : Cur} {kind : Int} {k : List DCond} {late : Bool} (hk : kOK k) : Dr (3 * n + 2) (3 * m + 1) c (exA code vs rank r how c kind k late):=by
 have wide : ∀ {a b : Nat} {x : List DItem × Cur},Dr a b c x → a ≤ 3 * n + 2 → b ≤ 3 * m + 1 → Dr (3 * n + 2) (3 * m + 1) c x:=fun h h1 h2 => ⟨h.1,Nat.le_trans h.2.1 h2,fun j hj => h.2.2 j (hj.less (by omega))⟩
 have rs:=wide (rsF_dr (code:=code) hr (c:=c) (kind:=kind) (late:=late) hk) (by omega) (by omega)
 unfold exA
 split
 ·exact wide (cnF_dr c) (by omega) (by omega)
 split
 ·unfold fbF
  split
  ·have h1:=hr (pkF code 2 (pkF code 9 c).2).2 kind k true hk
   have h:=pkF_lt code (m:=2) (pkF code 9 c).2 (by omega)
   refine ⟨Ex.one (itP_of (by omega) (by omega) (by simp [loI,hiI]; omega)) rfl h1.1,?_,fun j hj => h1.2.2 j (pkF_ok (pkF_ok (hj.less (by omega))))⟩
   have:=h1.2.1
   simp only [List.length_append,List.length_singleton]
   omega
  ·have h1:=hr (pkF code 9 c).2 kind k true hk
   have h:=pkF_lt code (m:=9) c (by omega)
   refine ⟨Ex.one (itP_of (by omega) (by omega) (by simp [loI,hiI]; omega)) rfl h1.1,?_,fun j hj => h1.2.2 j (pkF_ok (hj.less (by omega)))⟩
   have:=h1.2.1
   simp only [List.length_append,List.length_singleton]
   omega
 split
 ·have h1:=hr c 2 k late hk
  obtain ⟨⟨x,y,e,hx,hy⟩,h2,h3⟩:=bin2_dr hr (c:=(r c 2 k late).2) (kind:=kind) (late:=late) hk
  unfold ifF
  refine ⟨?_,?_,fun j hj => h3 j (h1.2.2 _ (hj.less (by omega)))⟩
  ·rw [e]
   exact Ex.three (itP_z (by omega) (by omega)) rfl h1.1 hx hy
  ·have:=h1.2.1
   simp only [List.length_append,List.length_singleton]
   omega
 split
 ·split
  ·rename_i hl
   unfold whF
   have h1:=hr c kind (k.take (k.length - 1)) late (kOK_take hk _)
   refine ⟨Ex.one ?_ rfl h1.1,?_,fun j hj => h1.2.2 j (hj.less (by omega))⟩
   ·unfold whJ
    refine itP_nm (by omega) ?_ (hk _ (List.getElem_mem _))
    have h9 : ∀ b : Bool,loI 23 ≤ (if b = true then (1 : Int) else 0) ∧ (if b = true then (1 : Int) else 0) ≤ hiI 23:=by decide
    exact h9 _
   ·have:=h1.2.1
    simp only [List.length_append,List.length_singleton]
    omega
  ·exact rs
 split
 ·split
  ·rename_i hl
   unfold mgF
   simp only
   have h:=pkF_lt code (m:=(fnF vs rank 2 k late).length) c (by omega)
   have hb:=fnTo_ok hv rank 2 k late vs.length _ (getD_mem h)
   generalize hbb : (fnF vs rank 2 k late).getD (pkF code (fnF vs rank 2 k late).length c).1 noN = b at *
   have hb' : plainB b = true:=by rw [← hbb]; exact hb
   generalize (fnF vs rank 2 k late).length = N at *
   have h1:=hr (pkF code N c).2 kind (k ++ [⟨b,true⟩]) late (kOK_snoc hk hb' _)
   have h2:=hr (r (pkF code N c).2 kind (k ++ [⟨b,true⟩]) late).2 kind (k ++ [⟨b,false⟩]) late (kOK_snoc hk hb' _)
   refine ⟨Ex.two (itP_nm (by omega) (by simp [loI,hiI]) hb') rfl h1.1 h2.1,?_,fun j hj => h2.2.2 j (h1.2.2 _ (pkF_ok (hj.less (by omega))))⟩
   have:=h1.2.1
   have:=h2.2.1
   simp only [List.length_append,List.length_singleton]
   omega
  ·exact rs
 exact rs
theorem exF_dr {code : List Int} {vs : List DVar} (hv : vsOK vs) {rank : Nat} : ∀ f,DrR (kE f) (szE f) (exF code vs rank f)
 | 0,c,kind,k,late,hk => by
  have h:=lfF_dr (code:=code) (fnTo_ok hv rank kind k late vs.length) (kind:=kind) (pkF code 12 (dcR c)).2
  rw [exF]
  refine ⟨h.1,h.2.1,fun j hj => h.2.2 j (pkF_ok ?_)⟩
  obtain ⟨g1,g2,g3,g4⟩:=hj
  simp only [kE] at g1 g2
  exact ⟨by simp only [dcR]; omega,by simp only [dcR]; omega,by simp only [dcR]; omega,g4⟩
 | f + 1,c,kind,k,late,hk => by
  have hc : ∀ j,okB (j + kE (f + 1)) c → okB (j + (3 * kE f + 4)) (pkF code 12 (dcR c)).2:=fun j hj => by
   refine pkF_ok ?_
   obtain ⟨g1,g2,g3,g4⟩:=hj
   simp only [kE] at g1 g2
   exact ⟨by simp only [dcR]; omega,by simp only [dcR]; omega,by simp only [dcR]; omega,g4⟩
  rw [exF]
  split
  ·have h : Dr 1 1 (pkF code 12 (dcR c)).2 (lfF code (fnF vs rank kind k late) kind (pkF code 12 (dcR c)).2):=lfF_dr (code:=code) (fnTo_ok hv rank kind k late vs.length) (kind:=kind) (pkF code 12 (dcR c)).2
   exact ⟨h.1,by have:=h.2.1; simp only [szE]; omega,fun j hj => h.2.2 j ((hc j hj).less (by omega))⟩
  ·have h:=exA_dr (code:=code) (rank:=rank) hv (exF_dr (code:=code) (rank:=rank) hv f) (how:=(pkF code 12 (dcR c)).1) (c:=(pkF code 12 (dcR c)).2) (kind:=kind) (late:=late) hk
   exact ⟨h.1,by have:=h.2.1; simp only [szE]; omega,fun j hj => h.2.2 j ((hc j hj).less (by omega))⟩
end Go.Proofs.YtajabbnlbopcbaaGreatDoor
