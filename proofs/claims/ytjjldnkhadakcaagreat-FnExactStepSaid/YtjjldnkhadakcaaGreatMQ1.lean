import Derived.Test.YtjjldnkhadakcaaGreatM12
import Derived.Test.YtjjldnkhadakcaaGreatData
import Derived.Maps.OwnSet
namespace Go.Proofs.YtjjldnkhadakcaaGreat
open Go.RowKit
set_option linter.unusedSimpArgs false
set_option linter.unusedVariables false
structure PL where
  o : Option (DStm × PL × Option (DStm × PL × DStm × PL))
abbrev PL.nil : PL := ⟨none⟩
abbrev PL.leaf (s : DStm) (r : PL) : PL := ⟨some (s, r, none)⟩
abbrev PL.br (s : DStm) (a : PL) (el : DStm) (b : PL) (en : DStm) (r : PL) : PL := ⟨some (s, r, some (el, a, en, b))⟩
theorem PL.ind {motive : PL → Prop} (nil : motive .nil) (leaf : ∀ s r, motive r → motive (.leaf s r)) (br : ∀ s a el b en r, motive a → motive b → motive r → motive (.br s a el b en r)) : ∀ t, motive t
  | ⟨none⟩ => nil
  | ⟨some (s, r, none)⟩ => leaf s r (PL.ind nil leaf br r)
  | ⟨some (s, r, some (el, a, en, b))⟩ => br s a el b en r (PL.ind nil leaf br a) (PL.ind nil leaf br b) (PL.ind nil leaf br r)
theorem PL.inv {motive : PL → Prop} (t : PL) (nil : motive .nil) (leaf : ∀ s r, motive (.leaf s r)) (br : ∀ s a el b en r, motive (.br s a el b en r)) : motive t := PL.ind nil (fun s r _ => leaf s r) (fun s a el b en r _ _ _ => br s a el b en r) t
def PL.flat : PL → List DStm
 | ⟨none⟩ => []
 | ⟨some (s, r, none)⟩ => s :: r.flat
 | ⟨some (s, r, some (el, a, en, b))⟩ => s :: (a.flat ++ el :: (b.flat ++ en :: r.flat))
def PL.wf : PL → Prop
 | ⟨none⟩ => True
 | ⟨some (s, r, none)⟩ => (s.kind ≠ 4 ∧ s.kind ≠ 5 ∧ s.kind ≠ 6) ∧ r.wf
 | ⟨some (s, r, some (el, a, en, b))⟩ => (s.kind = 4 ∧ el.kind = 5 ∧ en.kind = 6) ∧ a.wf ∧ b.wf ∧ r.wf
def PL.deep : PL → Int → Prop
 | ⟨none⟩,_ => True
 | ⟨some (_, r, none)⟩,d => d ≤ 20 ∧ r.deep d
 | ⟨some (_, r, some (_, a, _, b))⟩,d => d ≤ 20 ∧ a.deep (d + 1) ∧ b.deep (d + 1) ∧ r.deep d
def PL.cost (kn : DStm → Int) : PL → Int → Int
 | ⟨none⟩,s => s
 | ⟨some (st, r, none)⟩,s => r.cost kn (capS (s + (if st.kind = 3 then 1 + kn st else 1)))
 | ⟨some (_, r, some (_, a, _, b))⟩,s => r.cost kn (capS (s + (1 + maxS (a.cost kn 0) (b.cost kn 0))))
def PL.free : PL → List ByteArray → Prop
 | ⟨none⟩,_ => True
 | ⟨some (s, r, none)⟩,H => (∀ x,x ∈ H → wrB s x = false) ∧ r.free H
 | ⟨some (s, r, some (_, a, _, b))⟩,H => a.free (s.name :: H) ∧ b.free (s.name :: H) ∧ r.free H
def PL.ifsOK : PL → Prop
 | ⟨none⟩ => True
 | ⟨some (_, r, none)⟩ => r.ifsOK
 | ⟨some (s, r, some (_, a, _, b))⟩ => ((∀ u,u ∈ a.flat → wrB u s.name = false) ∧ ∀ u,u ∈ b.flat → wrB u s.name = false) ∧ a.ifsOK ∧ b.ifsOK ∧ r.ifsOK
theorem kinds_cons (s : DStm) (l : List DStm) : kindsOf (s :: l) = s.kind :: kindsOf l:=rfl
theorem kinds_app (l m : List DStm) : kindsOf (l ++ m) = kindsOf l ++ kindsOf m:=List.map_append
theorem kinds_len (l : List DStm) : (kindsOf l).length = l.length:=List.length_map _
theorem pGo_flat (t : PL) : ∀ (rest : List Int) (j : Nat) (d o : Int),t.wf → 1 ≤ d → pGo (kindsOf t.flat ++ rest) j d o = pGo rest (j + t.flat.length) d o:=by
 induction t using PL.ind with
 | nil => intro rest j d o _ _; simp [PL.flat,kindsOf]
 | leaf s r ih =>
  intro rest j d o h hd
  obtain ⟨⟨h4,h5,h6⟩,hr⟩:=h
  simp only [PL.flat,kinds_cons,List.cons_append,List.length_cons]
  rw [pGo,if_neg h4,if_neg h5,if_neg h6,ih _ _ _ _ hr hd]
  congr 1; omega
 | br s a el b en r iha ihb ihr =>
  intro rest j d o h hd
  obtain ⟨⟨h4,h5,h6⟩,ha,hb,hr⟩:=h
  simp only [PL.flat,kinds_cons,kinds_app,List.cons_append,List.append_assoc,List.length_cons,List.length_append]
  rw [pGo,if_pos h4,iha _ _ _ _ ha (by omega),pGo,if_neg (by omega),if_pos h5,if_neg (by omega),ihb _ _ _ _ hb (by omega),pGo,if_neg (by omega),if_neg (by omega),if_pos h6,if_neg (by omega),ihr _ _ _ _ hr (by omega)]
  congr 1 <;> omega
theorem parts_at (ks : List Int) (i : Nat) (a b : PL) (post : List Int) (ha : a.wf) (hb : b.wf) (h : ks.drop i = 4 :: (kindsOf a.flat ++ 5 :: (kindsOf b.flat ++ 6 :: post))) :
  partsI ks i = (((i + 1 + a.flat.length : Nat) : Int),((i + 1 + a.flat.length + 1 + b.flat.length : Nat) : Int)):=by
 unfold partsI
 rw [h,pGo,if_pos rfl,pGo_flat a _ _ _ _ ha (by omega),pGo,if_neg (by omega),if_pos rfl,if_pos (by omega),if_neg (by omega),pGo_flat b _ _ _ _ hb (by omega),pGo,if_neg (by omega),if_neg (by omega),if_pos rfl,if_pos (by omega)]
theorem sub_mid {α : Type} (pre : List α) (x : α) (A R : List α) (i : Nat) (hi : i = pre.length) (q : Nat) (hq : q = i + 1 + A.length) : subK (pre ++ x :: (A ++ R)) (i + 1) q = A:=by
 subst hi hq
 unfold subK
 have e : (pre ++ x :: (A ++ R)).drop (pre.length + 1) = A ++ R:=by
  rw [List.drop_append]
  simp
 rw [e,show pre.length + 1 + A.length - (pre.length + 1) = A.length by omega,List.take_left]
theorem kinds_drop_pre (pre l : List Int) : (pre ++ l).drop pre.length = l:=List.drop_left
theorem nest_yes (t : PL) : ∀ (f n : Nat) (pre : List Int) (d : Int),t.wf → t.deep d → t.flat.length ≤ f → t.flat.length < n → nestL (nestF f) (pre ++ kindsOf t.flat) d n pre.length = true:=by
 induction t using PL.ind with
 | nil =>
  intro f n pre d _ _ _ _
  have:=nestL_end (nestF f) pre d n
  simpa [PL.flat,kindsOf] using this
 | leaf s r ih =>
  intro f n pre d h hd hf hn
  obtain ⟨⟨h4,h5,h6⟩,hr⟩:=h
  simp only [PL.flat,List.length_cons] at hf hn
  obtain ⟨n,rfl⟩ : ∃ m,n = m + 1:=⟨n - 1,by omega⟩
  rw [nestL_step _ _ _ _ _ (by simp [PL.flat,kinds_cons])]
  have e : (pre ++ kindsOf (PL.leaf s r).flat)[pre.length]'(by simp [PL.flat,kinds_cons]) = s.kind:=by simp [PL.flat,kinds_cons]
  rw [e,if_neg (by omega),if_neg h4]
  have:=ih f n (pre ++ [s.kind]) d hr hd.2 (by omega) (by omega)
  simpa [PL.flat,kinds_cons] using this
 | br s a el b en r iha ihb ihr =>
  intro f n pre d h hd hf hn
  obtain ⟨⟨h4,h5,h6⟩,ha,hb,hr⟩:=h
  obtain ⟨hd0,hda,hdb,hdr⟩:=hd
  simp only [PL.flat,List.length_cons,List.length_append] at hf hn
  obtain ⟨n,rfl⟩ : ∃ m,n = m + 1:=⟨n - 1,by omega⟩
  obtain ⟨f,rfl⟩ : ∃ m,f = m + 1:=⟨f - 1,by omega⟩
  have ek : pre ++ kindsOf (PL.br s a el b en r).flat = pre ++ 4 :: (kindsOf a.flat ++ 5 :: (kindsOf b.flat ++ 6 :: kindsOf r.flat)):=by
   simp [PL.flat,kinds_cons,kinds_app,h4,h5,h6]
  rw [ek]
  rw [nestL_step _ _ _ _ _ (by simp)]
  have e : (pre ++ 4 :: (kindsOf a.flat ++ 5 :: (kindsOf b.flat ++ 6 :: kindsOf r.flat)))[pre.length]'(by simp) = 4:=by simp
  rw [e,if_neg (by omega),if_pos rfl,parts_at _ _ a b (kindsOf r.flat) ha hb (kinds_drop_pre _ _)]
  rw [if_neg (by omega)]
  have hin : ¬ ((((pre.length : Nat) : Int) + 1 < ((pre.length + 1 + a.flat.length : Nat) : Int) ∨ ((pre.length + 1 + a.flat.length : Nat) : Int) + 1 < ((pre.length + 1 + a.flat.length + 1 + b.flat.length : Nat) : Int)) ∧ 20 < d + 1):=by
   rintro ⟨h1 | h1,h2⟩
   ·cases a using PL.inv with
    | nil => simp [PL.flat] at h1
    | leaf _ _ => have:=hda.1; omega
    | br _ _ _ _ _ _ => have:=hda.1; omega
   ·cases b using PL.inv with
    | nil => simp [PL.flat] at h1
    | leaf _ _ => have:=hdb.1; omega
    | br _ _ _ _ _ _ => have:=hdb.1; omega
  rw [if_neg hin]
  simp only [Int.toNat_natCast]
  rw [sub_mid pre 4 (kindsOf a.flat) _ pre.length rfl _ (by rw [kinds_len])]
  have e2 : subK (pre ++ 4 :: (kindsOf a.flat ++ 5 :: (kindsOf b.flat ++ 6 :: kindsOf r.flat))) (pre.length + 1 + a.flat.length + 1) (pre.length + 1 + a.flat.length + 1 + b.flat.length) = kindsOf b.flat:=by
   have:=sub_mid (pre ++ 4 :: kindsOf a.flat) 5 (kindsOf b.flat) (6 :: kindsOf r.flat) (pre.length + 1 + a.flat.length) (by simp [kinds_len]; omega) (pre.length + 1 + a.flat.length + 1 + b.flat.length) (by rw [kinds_len])
   simpa using this
  rw [e2]
  have ra : nestF (f + 1) (kindsOf a.flat) (d + 1) = true:=by
   have:=iha f ((kindsOf a.flat).length + 1) [] (d + 1) ha hda (by omega) (by rw [kinds_len]; omega)
   simpa [nestF] using this
  have rb : nestF (f + 1) (kindsOf b.flat) (d + 1) = true:=by
   have:=ihb f ((kindsOf b.flat).length + 1) [] (d + 1) hb hdb (by omega) (by rw [kinds_len]; omega)
   simpa [nestF] using this
  rw [ra,rb]
  simp only [Bool.true_eq_false,if_false]
  have:=ihr (f + 1) n (pre ++ 4 :: (kindsOf a.flat ++ 5 :: (kindsOf b.flat ++ [6]))) d hr hdr (by omega) (by omega)
  have el : (pre ++ 4 :: (kindsOf a.flat ++ 5 :: (kindsOf b.flat ++ [6]))).length = pre.length + 1 + a.flat.length + 1 + b.flat.length + 1:=by simp [kinds_len]; omega
  rw [el] at this
  simpa using this
theorem pGo_kinds (ks : List Int) : ∀ (j : Nat) (d o : Int),0 ≤ (pGo ks j d o).2 → (∃ e : Nat,(pGo ks j d o).2 = (j + e : Nat) ∧ ks[e]? = some 6) ∧ ((pGo ks j d o).1 = o ∨ ∃ e : Nat,(pGo ks j d o).1 = (j + e : Nat) ∧ ks[e]? = some 5):=by
 induction ks with
 | nil => intro j d o h; simp [pGo] at h
 | cons kd r ih =>
  have up : ∀ (j : Nat) (d o o' : Int),0 ≤ (pGo r (j + 1) d o).2 → (o = o' ∨ ∃ e : Nat,o = (j + e : Nat) ∧ (kd :: r)[e]? = some 5) → (∃ e : Nat,(pGo r (j + 1) d o).2 = (j + e : Nat) ∧ (kd :: r)[e]? = some 6) ∧ ((pGo r (j + 1) d o).1 = o' ∨ ∃ e : Nat,(pGo r (j + 1) d o).1 = (j + e : Nat) ∧ (kd :: r)[e]? = some 5):=by
   intro j d o o' h ho
   obtain ⟨⟨e,h1,h2⟩,h3⟩:=ih (j + 1) d o h
   refine ⟨⟨e + 1,by omega,by simpa using h2⟩,?_⟩
   rcases h3 with h3 | ⟨e,h3,h4⟩
   ·rw [h3]; exact ho
   ·exact Or.inr ⟨e + 1,by omega,by simpa using h4⟩
  intro j d o h
  unfold pGo at h ⊢
  split at h <;> rename_i h4
  ·simp only [if_pos h4]; exact up j _ o o h (Or.inl rfl)
  ·simp only [if_neg h4]
   split at h <;> rename_i h5
   ·simp only [if_pos h5]
    split at h <;> rename_i hd
    ·simp only [if_pos hd]
     split at h <;> rename_i ho
     ·simp at h
     ·simp only [if_neg ho]
      exact up j _ _ o h (Or.inr ⟨0,by simp,by simp [h5]⟩)
    ·simp only [if_neg hd]; exact up j _ o o h (Or.inl rfl)
   ·simp only [if_neg h5]
    split at h <;> rename_i h6
    ·simp only [if_pos h6]
     split at h <;> rename_i hd
     ·simp only [if_pos hd]
      exact ⟨⟨0,by simp,by simp [h6]⟩,by simp⟩
     ·simp only [if_neg hd]; exact up j _ o o h (Or.inl rfl)
    ·simp only [if_neg h6]; exact up j _ o o h (Or.inl rfl)
theorem parts_kinds (ks : List Int) (i : Nat) (h1 : 0 ≤ (partsI ks i).1) (h2 : 0 ≤ (partsI ks i).2) : ks[(partsI ks i).1.toNat]? = some 5 ∧ ks[(partsI ks i).2.toNat]? = some 6:=by
 unfold partsI at *
 obtain ⟨⟨e,h3,h4⟩,h5⟩:=pGo_kinds (ks.drop i) i 0 (-1) h2
 rw [List.getElem?_drop] at h4
 constructor
 ·rcases h5 with h5 | ⟨e,h5,h6⟩
  ·rw [h5] at h1; omega
  ·rw [h5,Int.toNat_natCast]
   rw [List.getElem?_drop] at h6
   exact h6
 ·rw [h3,Int.toNat_natCast]; exact h4
theorem nest_tree : ∀ (f : Nat) (body : List DStm) (d : Int),body.length < f → nestF f (kindsOf body) d = true → (d ≤ 20 ∨ body = []) → ∃ t : PL,t.flat = body ∧ t.wf ∧ t.deep d:=by
 intro f
 induction f with
 | zero => intro body d h; omega
 | succ f ihf =>
  intro body d hl h hd
  rw [nestF] at h
  have main : ∀ (n i : Nat),i ≤ body.length → body.length - i < n → nestL (nestF f) (kindsOf body) d n i = true → ∃ t : PL,t.flat = body.drop i ∧ t.wf ∧ t.deep d:=by
   intro n
   induction n with
   | zero => intro i _ h; omega
   | succ n ihn =>
    intro i hi hn hh
    by_cases hlt : i < body.length
    case neg =>
     exact ⟨.nil,by rw [List.drop_eq_nil_of_le (by omega)]; rfl,trivial,trivial⟩
    have hd20 : d ≤ 20:=by
     rcases hd with hd | hd
     ·exact hd
     ·subst hd; simp at hlt
    rw [nestL_step _ _ _ _ _ (by rw [kinds_len]; exact hlt),kinds_at body i hlt] at hh
    split at hh
    ·cases hh
    rename_i h56
    split at hh
    ·rename_i h4
     split at hh
     ·cases hh
     rename_i hneg
     split at hh
     ·cases hh
     rename_i hdeep
     split at hh
     ·cases hh
     rename_i ra
     split at hh
     ·cases hh
     rename_i rb
     have p1 : 0 ≤ (partsI (kindsOf body) i).1:=by omega
     have p2 : 0 ≤ (partsI (kindsOf body) i).2:=by omega
     have bd:=parts_bd (kindsOf body) i (by rw [kinds_len]; exact hlt) (by rw [kinds_at body i hlt]; exact h4) p1 p2
     have kk:=parts_kinds (kindsOf body) i p1 p2
     rw [kinds_len] at bd
     generalize (partsI (kindsOf body) i).1 = oI at *
     generalize (partsI (kindsOf body) i).2 = eI at *
     obtain ⟨o,rfl⟩:=Int.eq_ofNat_of_zero_le p1
     obtain ⟨e,rfl⟩:=Int.eq_ofNat_of_zero_le p2
     simp only [Int.toNat_natCast] at *
     have hoe : i + 1 ≤ o ∧ o < e ∧ e < body.length:=by omega
     rw [Bool.not_eq_false] at ra rb
     rw [kindsOf,← subK_map] at ra rb
     obtain ⟨ta,fa,wa,da⟩:=ihf (subK body (i + 1) o) (d + 1) (by rw [subK_len _ _ _ (by omega) (by omega)]; omega) ra (by
      by_cases e1 : i + 1 < o
      ·left; omega
      ·right; apply List.eq_nil_of_length_eq_zero; rw [subK_len _ _ _ (by omega) (by omega)]; omega)
     obtain ⟨tb,fb,wb,db⟩:=ihf (subK body (o + 1) e) (d + 1) (by rw [subK_len _ _ _ (by omega) (by omega)]; omega) rb (by
      by_cases e1 : o + 1 < e
      ·left; omega
      ·right; apply List.eq_nil_of_length_eq_zero; rw [subK_len _ _ _ (by omega) (by omega)]; omega)
     obtain ⟨tr,fr,wr,dr⟩:=ihn (e + 1) (by omega) (by omega) hh
     have k5 : body[o].kind = 5:=by
      have:=kk.1
      rw [List.getElem?_eq_getElem (by rw [kinds_len]; omega),kinds_at body o (by omega)] at this
      simpa using this
     have k6 : body[e].kind = 6:=by
      have:=kk.2
      rw [List.getElem?_eq_getElem (by rw [kinds_len]; omega),kinds_at body e (by omega)] at this
      simpa using this
     refine ⟨.br body[i] ta body[o] tb body[e] tr,?_,⟨⟨h4,k5,k6⟩,wa,wb,wr⟩,⟨hd20,da,db,dr⟩⟩
     simp only [PL.flat]
     rw [fa,fb,fr,List.drop_eq_getElem_cons hlt]
     congr 1
     have c1 : body.drop (o) = body[o] :: body.drop (o + 1):=List.drop_eq_getElem_cons (by omega)
     have c2 : body.drop (e) = body[e] :: body.drop (e + 1):=List.drop_eq_getElem_cons (by omega)
     have sp : ∀ p q : Nat,p ≤ q → body.drop p = subK body p q ++ body.drop q:=fun p q hpq => by
      unfold subK
      have:=List.take_append_drop (q - p) (body.drop p)
      rw [List.drop_drop,show p + (q - p) = q by omega] at this
      exact this.symm
     rw [sp (i + 1) o hoe.1,c1,sp (o + 1) e (by omega),c2]
    ·rename_i h4
     obtain ⟨tr,fr,wr,dr⟩:=ihn (i + 1) (by omega) (by omega) hh
     refine ⟨.leaf body[i] tr,?_,⟨⟨h4,by omega,by omega⟩,wr⟩,⟨hd20,dr⟩⟩
     simp only [PL.flat]
     rw [fr,List.drop_eq_getElem_cons hlt]
  have:=main ((kindsOf body).length + 1) 0 (Nat.zero_le _) (by rw [kinds_len]; omega) h
  simpa using this
theorem nest_iff (t : PL) (h : t.wf) (hd : t.deep 0) : nestF (t.flat.length + 1) (kindsOf t.flat) 0 = true:=by
 rw [nestF]
 exact nest_yes t t.flat.length ((kindsOf t.flat).length + 1) [] 0 h hd (Nat.le_refl _) (by rw [kinds_len]; omega)
def knOf (insts known : List Int) (s : DStm) : Int:=known.getD (insts.getD s.at_.toNat 0).toNat 0
theorem costs_cons (insts known : List Int) (s : DStm) (l : List DStm) : costs insts known (s :: l) = (s.kind,knOf insts known s) :: costs insts known l:=rfl
theorem costs_app (insts known : List Int) (l m : List DStm) : costs insts known (l ++ m) = costs insts known l ++ costs insts known m:=List.map_append
theorem costs_len (insts known : List Int) (l : List DStm) : (costs insts known l).length = l.length:=List.length_map _
theorem sum_tree (insts known : List Int) (t : PL) : ∀ (f n : Nat) (pre : List DStm) (s : Int),t.wf → t.flat.length ≤ f → t.flat.length < n → sumL (sumF f) (costs insts known (pre ++ t.flat)) n pre.length s = t.cost (knOf insts known) s:=by
 induction t using PL.ind with
 | nil =>
  intro f n pre s _ _ _
  have:=sumL_end (sumF f) insts known pre n s
  simpa [PL.flat,PL.cost] using this
 | leaf st r ih =>
  intro f n pre s h hf hn
  obtain ⟨⟨h4,h5,h6⟩,hr⟩:=h
  simp only [PL.flat,List.length_cons] at hf hn
  obtain ⟨n,rfl⟩ : ∃ m,n = m + 1:=⟨n - 1,by omega⟩
  rw [sumL_step _ _ _ _ _ _ _ (by simp [PL.flat])]
  have e : (pre ++ (PL.leaf st r).flat)[pre.length]'(by simp [PL.flat]) = st:=by simp [PL.flat]
  rw [e,if_neg h4]
  have ih':=fun s => ih f n (pre ++ [st]) s hr (by omega) (by omega)
  simp only [List.append_assoc,List.singleton_append,List.length_append,List.length_singleton] at ih'
  simp only [PL.flat,PL.cost]
  split
  ·rw [ih']; rfl
  ·rw [ih']
 | br st a el b en r iha ihb ihr =>
  intro f n pre s h hf hn
  obtain ⟨⟨h4,h5,h6⟩,ha,hb,hr⟩:=h
  simp only [PL.flat,List.length_cons,List.length_append] at hf hn
  obtain ⟨n,rfl⟩ : ∃ m,n = m + 1:=⟨n - 1,by omega⟩
  obtain ⟨f,rfl⟩ : ∃ m,f = m + 1:=⟨f - 1,by omega⟩
  rw [sumL_step _ _ _ _ _ _ _ (by simp [PL.flat])]
  have e : (pre ++ (PL.br st a el b en r).flat)[pre.length]'(by simp [PL.flat]) = st:=by simp [PL.flat]
  rw [e,if_pos h4]
  have ek : kindsOf (pre ++ (PL.br st a el b en r).flat) = kindsOf pre ++ 4 :: (kindsOf a.flat ++ 5 :: (kindsOf b.flat ++ 6 :: kindsOf r.flat)):=by
   simp [PL.flat,kinds_cons,kinds_app,h4,h5,h6]
  rw [ek,parts_at _ _ a b (kindsOf r.flat) ha hb (by rw [← kinds_len pre]; exact kinds_drop_pre _ _)]
  simp only [Int.toNat_natCast]
  have ec : costs insts known (pre ++ (PL.br st a el b en r).flat) = costs insts known pre ++ (st.kind,knOf insts known st) :: (costs insts known a.flat ++ (el.kind,knOf insts known el) :: (costs insts known b.flat ++ (en.kind,knOf insts known en) :: costs insts known r.flat)):=by
   simp [PL.flat,costs_cons,costs_app]
  rw [ec]
  rw [sub_mid (costs insts known pre) _ (costs insts known a.flat) _ pre.length (by rw [costs_len]) _ (by rw [costs_len])]
  have e2 : subK (costs insts known pre ++ (st.kind,knOf insts known st) :: (costs insts known a.flat ++ (el.kind,knOf insts known el) :: (costs insts known b.flat ++ (en.kind,knOf insts known en) :: costs insts known r.flat))) (pre.length + 1 + a.flat.length + 1) (pre.length + 1 + a.flat.length + 1 + b.flat.length) = costs insts known b.flat:=by
   have:=sub_mid (costs insts known pre ++ (st.kind,knOf insts known st) :: costs insts known a.flat) (el.kind,knOf insts known el) (costs insts known b.flat) ((en.kind,knOf insts known en) :: costs insts known r.flat) (pre.length + 1 + a.flat.length) (by simp [costs_len]; omega) (pre.length + 1 + a.flat.length + 1 + b.flat.length) (by rw [costs_len])
   simpa using this
  rw [e2,← ec]
  have ra : sumF (f + 1) (costs insts known a.flat) = a.cost (knOf insts known) 0:=by
   rw [sumF]
   exact iha f ((costs insts known a.flat).length + 1) [] 0 ha (by omega) (by rw [costs_len]; omega)
  have rb : sumF (f + 1) (costs insts known b.flat) = b.cost (knOf insts known) 0:=by
   rw [sumF]
   exact ihb f ((costs insts known b.flat).length + 1) [] 0 hb (by omega) (by rw [costs_len]; omega)
  rw [ra,rb]
  have:=ihr (f + 1) n (pre ++ st :: (a.flat ++ el :: (b.flat ++ [en]))) (capS (s + (1 + maxS (a.cost (knOf insts known) 0) (b.cost (knOf insts known) 0)))) hr (by omega) (by omega)
  have el' : (pre ++ st :: (a.flat ++ el :: (b.flat ++ [en]))).length = pre.length + 1 + a.flat.length + 1 + b.flat.length + 1:=by simp; omega
  rw [el'] at this
  simp only [PL.cost]
  rw [← this]
  simp [PL.flat]
theorem sum_flat (insts known : List Int) (t : PL) (h : t.wf) : sumF (t.flat.length + 1) (costs insts known t.flat) = t.cost (knOf insts known) 0:=by
 rw [sumF]
 exact sum_tree insts known t t.flat.length ((costs insts known t.flat).length + 1) [] 0 h (Nat.le_refl _) (by rw [costs_len]; omega)
theorem free_iff (t : PL) : ∀ H : List ByteArray,t.wf → (t.free H ↔ (∀ x,x ∈ H → ∀ u,u ∈ t.flat → wrB u x = false) ∧ t.ifsOK):=by
 induction t using PL.ind with
 | nil => intro H _; simp [PL.free,PL.flat,PL.ifsOK]
 | leaf s r ih =>
  intro H h
  simp only [PL.free,PL.flat,PL.ifsOK,ih H h.2,List.mem_cons]
  constructor
  ·rintro ⟨h1,h2,h3⟩
   refine ⟨fun x hx u hu => ?_,h3⟩
   rcases hu with rfl | hu
   ·exact h1 x hx
   ·exact h2 x hx u hu
  ·rintro ⟨h1,h3⟩
   exact ⟨fun x hx => h1 x hx s (Or.inl rfl),fun x hx u hu => h1 x hx u (Or.inr hu),h3⟩
 | br s a el b en r iha ihb ihr =>
  intro H h
  obtain ⟨⟨h4,h5,h6⟩,ha,hb,hr⟩:=h
  have wk : ∀ (u : DStm) (x : ByteArray),u.kind ≠ 1 → u.kind ≠ 3 → wrB u x = false:=fun u x k1 k3 => by
   simp [wrB,k1,k3]
  simp only [PL.free,PL.flat,PL.ifsOK,iha _ ha,ihb _ hb,ihr _ hr,List.mem_cons,List.mem_append]
  constructor
  ·rintro ⟨⟨a1,a2⟩,⟨b1,b2⟩,r1,r2⟩
   refine ⟨fun x hx u hu => ?_,⟨fun u hu => a1 _ (Or.inl rfl) u hu,fun u hu => b1 _ (Or.inl rfl) u hu⟩,a2,b2,r2⟩
   rcases hu with rfl | hu | rfl | hu | rfl | hu
   ·exact wk _ _ (by omega) (by omega)
   ·exact a1 x (Or.inr hx) u hu
   ·exact wk _ _ (by omega) (by omega)
   ·exact b1 x (Or.inr hx) u hu
   ·exact wk _ _ (by omega) (by omega)
   ·exact r1 x hx u hu
  ·rintro ⟨h1,⟨a1,b1⟩,a2,b2,r2⟩
   refine ⟨⟨fun x hx u hu => ?_,a2⟩,⟨fun x hx u hu => ?_,b2⟩,fun x hx u hu => h1 x hx u (Or.inr (Or.inr (Or.inr (Or.inr (Or.inr hu))))),r2⟩
   ·rcases hx with rfl | hx
    ·exact a1 u hu
    ·exact h1 x hx u (Or.inr (Or.inl hu))
   ·rcases hx with rfl | hx
    ·exact b1 u hu
    ·exact h1 x hx u (Or.inr (Or.inr (Or.inr (Or.inl hu))))
theorem ifBad_leaf (body : List DStm) (i : Nat) (s : DStm) (h : body[i]? = some s) (h4 : s.kind ≠ 4) : ifBad body i = false:=by
 unfold ifBad
 rw [h]
 simp [h4]
theorem ifBad_br (body : List DStm) (i : Nat) (s el en : DStm) (a b : PL) (post : List DStm) (h : body.drop i = s :: (a.flat ++ el :: (b.flat ++ en :: post))) (h4 : s.kind = 4) (h5 : el.kind = 5) (h6 : en.kind = 6) (ha : a.wf) (hb : b.wf) :
  (ifBad body i = false ↔ (∀ u,u ∈ a.flat → wrB u s.name = false) ∧ ∀ u,u ∈ b.flat → wrB u s.name = false):=by
 have wk : ∀ (u : DStm) (x : ByteArray),u.kind ≠ 1 → u.kind ≠ 3 → wrB u x = false:=fun u x k1 k3 => by
  simp [wrB,k1,k3]
 have hs : body[i]? = some s:=by
  have : (body.drop i)[0]? = some s:=by rw [h]; rfl
  simpa using this
 have hp : partsI (kindsOf body) i = (((i + 1 + a.flat.length : Nat) : Int),((i + 1 + a.flat.length + 1 + b.flat.length : Nat) : Int)):=by
  refine parts_at _ _ a b (kindsOf post) ha hb ?_
  unfold kindsOf
  rw [← List.map_drop,h]
  simp [h4,h5,h6]
 have hel : ∀ j,body[i + j]? = (s :: (a.flat ++ el :: (b.flat ++ en :: post)))[j]?:=fun j => by
  rw [← h,List.getElem?_drop]
 unfold ifBad
 rw [hs,hp]
 simp only [h4,Int.toNat_natCast]
 rw [show ((4 : Int) == 4) = true from rfl,Bool.true_and,List.any_eq_false]
 constructor
 ·intro hh
  refine ⟨fun u hu => ?_,fun u hu => ?_⟩
  ·obtain ⟨q,hq,rfl⟩:=List.getElem_of_mem hu
   have h1:=hh (i + (q + 1)) (List.mem_range.2 (by omega))
   rw [hel (q + 1),List.getElem?_cons_succ,List.getElem?_append_left hq,List.getElem?_eq_getElem hq] at h1
   simpa using h1
  ·obtain ⟨q,hq,rfl⟩:=List.getElem_of_mem hu
   have h1:=hh (i + (a.flat.length + 1 + q + 1)) (List.mem_range.2 (by omega))
   rw [hel (a.flat.length + 1 + q + 1),List.getElem?_cons_succ,List.getElem?_append_right (by omega),show a.flat.length + 1 + q - a.flat.length = q + 1 by omega,List.getElem?_cons_succ,List.getElem?_append_left hq,List.getElem?_eq_getElem hq] at h1
   have h2 : decide (i ≤ i + (a.flat.length + 1 + q + 1)) = true:=decide_eq_true (by omega)
   rw [h2] at h1
   simpa using h1
 ·rintro ⟨h1,h2⟩ j hj
  rw [List.mem_range] at hj
  by_cases hij : i ≤ j
  case neg => simp [hij]
  obtain ⟨q,rfl⟩ : ∃ q,j = i + q:=⟨j - i,by omega⟩
  rw [hel q]
  have hd : decide (i ≤ i + q) = true:=decide_eq_true (by omega)
  rw [hd,Bool.true_and]
  rcases q with _ | q
  ·simp only [List.getElem?_cons_zero]
   rw [wk s _ (by omega) (by omega)]
   decide
  ·rw [List.getElem?_cons_succ]
   by_cases hq : q < a.flat.length
   ·rw [List.getElem?_append_left hq,List.getElem?_eq_getElem hq]
    simp [h1 _ (List.getElem_mem hq)]
   ·rw [List.getElem?_append_right (by omega)]
    rcases hr : q - a.flat.length with _ | p
    ·rw [List.getElem?_cons_zero]
     simp [wk el _ (by omega) (by omega)]
    ·rw [List.getElem?_cons_succ,List.getElem?_append_left (by omega),List.getElem?_eq_getElem (by omega)]
     simp [h2 _ (List.getElem_mem _)]
theorem ifs_iff (t : PL) : ∀ (pre post : List DStm),t.wf → ((∀ i,pre.length ≤ i → i < pre.length + t.flat.length → ifBad (pre ++ t.flat ++ post) i = false) ↔ t.ifsOK):=by
 induction t using PL.ind with
 | nil => intro pre post _; simp only [PL.ifsOK,PL.flat,iff_true]; intro i h1 h2; simp at h2; omega
 | leaf s r ih =>
  intro pre post h
  have ih':=ih (pre ++ [s]) post h.2
  simp only [List.append_assoc,List.singleton_append,List.length_append,List.length_singleton] at ih'
  simp only [PL.flat,PL.ifsOK,List.length_cons,List.append_assoc,List.cons_append]
  rw [← ih']
  constructor
  ·intro hh i h1 h2
   exact hh i (by omega) (by omega)
  ·intro hh i h1 h2
   by_cases e : i = pre.length
   ·subst e
    exact ifBad_leaf _ _ s (by simp) h.1.1
   ·exact hh i (by omega) (by omega)
 | br s a el b en r iha ihb ihr =>
  intro pre post h
  obtain ⟨⟨h4,h5,h6⟩,ha,hb,hr⟩:=h
  have iha':=iha (pre ++ [s]) (el :: (b.flat ++ en :: (r.flat ++ post))) ha
  have ihb':=ihb (pre ++ s :: (a.flat ++ [el])) (en :: (r.flat ++ post)) hb
  have ihr':=ihr (pre ++ s :: (a.flat ++ el :: (b.flat ++ [en]))) post hr
  simp only [List.append_assoc,List.singleton_append,List.cons_append,List.length_append,List.length_singleton,List.length_cons,List.length_nil] at iha' ihb' ihr'
  simp only [PL.flat,PL.ifsOK,List.length_cons,List.length_append,List.append_assoc,List.cons_append]
  have hbr:=ifBad_br (pre ++ s :: (a.flat ++ el :: (b.flat ++ en :: (r.flat ++ post)))) pre.length s el en a b (r.flat ++ post) List.drop_left h4 h5 h6 ha hb
  rw [← iha',← ihb',← ihr',← hbr]
  constructor
  ·intro hh
   exact ⟨hh _ (Nat.le_refl _) (by omega),fun i h1 h2 => hh i (by omega) (by omega),fun i h1 h2 => hh i (by omega) (by omega),fun i h1 h2 => hh i (by omega) (by omega)⟩
  ·rintro ⟨g0,g1,g2,g3⟩ i h1 h2
   by_cases e0 : i = pre.length
   ·subst e0; exact g0
   by_cases e1 : i < pre.length + 1 + a.flat.length
   ·exact g1 i (by omega) (by omega)
   by_cases e2 : i = pre.length + 1 + a.flat.length
   ·refine ifBad_leaf _ _ el ?_ (by omega)
    rw [List.getElem?_append_right (by omega),show i - pre.length = a.flat.length + 1 by omega,List.getElem?_cons_succ,List.getElem?_append_right (by omega),Nat.sub_self]
    rfl
   by_cases e3 : i < pre.length + 1 + a.flat.length + 1 + b.flat.length
   ·exact g2 i (by omega) (by omega)
   by_cases e4 : i = pre.length + 1 + a.flat.length + 1 + b.flat.length
   ·refine ifBad_leaf _ _ en ?_ (by omega)
    rw [List.getElem?_append_right (by omega),show i - pre.length = (a.flat.length + 1 + b.flat.length) + 1 by omega,List.getElem?_cons_succ,List.getElem?_append_right (by omega),show a.flat.length + 1 + b.flat.length - a.flat.length = b.flat.length + 1 by omega,List.getElem?_cons_succ,List.getElem?_append_right (by omega),Nat.sub_self]
    rfl
   ·exact g3 i (by omega) (by omega)
theorem free_flat (t : PL) (h : t.wf) : ((List.range t.flat.length).all (fun j => !ifBad t.flat j) = true ↔ t.free []):=by
 rw [free_iff t [] h,List.all_eq_true]
 have:=ifs_iff t [] [] h
 simp only [List.nil_append,List.append_nil,List.length_nil,Nat.zero_add,Nat.zero_le,true_implies] at this
 simp only [List.not_mem_nil,false_implies,implies_true,true_and]
 rw [← this]
 constructor
 ·intro hh i hi
  have:=hh i (List.mem_range.2 hi)
  simpa using this
 ·intro hh i hi
  simp [hh i (List.mem_range.1 hi)]
end Go.Proofs.YtjjldnkhadakcaaGreat
namespace Go.Proofs.YtjjldnkhadakcaaGreat
open Go.RowKit
open Go.Maps (Keyed IsMap)
set_option linter.unusedVariables false
def tokR (v : Value) : Option (DataW Value × List MemPlace):=some (.held v,[])
variable {P : Program} {k : TypeId} {z : Value} {w : World} {b n : Nat} {f : ByteArray → Value}
theorem bytes_eq {s x : ByteArray} (h : s.data.toList = x.data.toList) : s = x:=by
 cases s; cases x
 simp only [ByteArray.mk.injEq]
 exact Array.toList_inj.1 h
end Go.Proofs.YtjjldnkhadakcaaGreat
namespace Go.Proofs.YtjjldnkhadakcaaGreat
open Go.RowKit
open Go.Maps (Keyed IsMap)
set_option linter.unusedVariables false
def skey (s : ByteArray) : Lit:=.string s.data.toList
def MapP (P : Program) (k : TypeId) (w : World) (b n : Nat) (f : ByteArray → Option Value) : Prop :=
 ∃ D,w.ownsMap P k tokR b n D ∧ Maps.size D = n ∧ (∀ s v,f s = some v → ∀ z,D.atKey (skey s) z = .held v) ∧ (∀ s,f s = none → ∀ z,D.atKey (skey s) z = z)
variable {P : Program} {k : TypeId} {w : World} {b n : Nat} {f : ByteArray → Option Value}
theorem MapP.made (w : World) : MapP P k (w.alloc (.map #[] 0)) w.heap.size 0 (fun _ => none) :=
 ⟨.map [],World.ownsMap_made w P k tokR,rfl,fun s v h => by (cases h),fun s _ z => rfl⟩
theorem MapP.lt (h : MapP P k w b n f) : b < w.heap.size:=by
 obtain ⟨D,h,_⟩:=h
 exact h.lt
theorem MapP.nocell (h : MapP P k w b n f) (j : Nat) : w.cell? ⟨b,j,none⟩ = none:=by
 obtain ⟨D,⟨es,clock,h1,_⟩,_⟩:=h
 simp [World.cell?,h1]
theorem MapP.block {w' : World} (h : MapP P k w b n f) (hb : w'.heap[b]? = w.heap[b]?) : MapP P k w' b n f:=by
 obtain ⟨D,⟨es,clock,h1,h2,h3,h4⟩,h5⟩:=h
 exact ⟨D,⟨es,clock,hb.trans h1,h2,h3,h4⟩,h5⟩
theorem MapP.below {B : Nat} {w' : World} (h : MapP P k w b n f) (hb : Below B w w') (hB : b < B) : MapP P k w' b n f:=h.block (hb.block b hB)
theorem MapP.len {t e : TypeId} (h : MapP P k w b n f) (ht : P.underlying t = some (.map k e)) (ty : TypeId) : (Builtin.len_ #[t] ty #[.map (some b)]).run P w = .ok (.int .i64 (n : Int)) w:=by
 obtain ⟨D,h,hs,_⟩:=h
 have:=h.len ht ty
 rwa [hs] at this
theorem MapP.hit {t e : TypeId} (h : MapP P k w b n f) (hk : P.underlying k = some .string) (ht : P.underlying t = some (.map k e)) {z : Value} (hz : (zeroValue e).run P w = .ok z w) {s : ByteArray} (hs : s.size ≤ maxLen) {v : Value} (hv : f s = some v) :
  (Instr.lookup t (.map (some b)) (.string s) true).run P w = .ok (.tuple #[v,.bool true]) w:=by
 obtain ⟨D,h,_,h4,h5⟩:=h
 obtain ⟨v',ps,hrun,hv'⟩:=h.look_ok (Maps.string_keyed hk) ht hz (zd:=.held z) (zp:=[]) rfl (WideMaps.keyOf_string_mk hk hs)
 have e1:=h4 s v hv
 unfold skey at e1
 rw [e1] at hv'
 unfold tokR at hv'
 simp only [Option.some.injEq,Prod.mk.injEq,DataW.held.injEq] at hv'
 rw [hrun,Maps.has_true_of_atKey e1,hv'.1]
theorem MapP.miss {t e : TypeId} (h : MapP P k w b n f) (hk : P.underlying k = some .string) (ht : P.underlying t = some (.map k e)) {z : Value} (hz : (zeroValue e).run P w = .ok z w) {s : ByteArray} (hs : s.size ≤ maxLen) (hv : f s = none) :
  (Instr.lookup t (.map (some b)) (.string s) true).run P w = .ok (.tuple #[z,.bool false]) w:=by
 obtain ⟨D,h,_,h4,h5⟩:=h
 obtain ⟨v',ps,hrun,hv'⟩:=h.look_ok (Maps.string_keyed hk) ht hz (zd:=.held z) (zp:=[]) rfl (WideMaps.keyOf_string_mk hk hs)
 have e1:=h5 s hv
 unfold skey at e1
 rw [e1] at hv'
 unfold tokR at hv'
 simp only [Option.some.injEq,Prod.mk.injEq,DataW.held.injEq] at hv'
 rw [hrun,Maps.has_false_of_atKey e1,hv'.1]
theorem MapP.look {t e : TypeId} (h : MapP P k w b n f) (hk : P.underlying k = some .string) (ht : P.underlying t = some (.map k e)) {z : Value} (hz : (zeroValue e).run P w = .ok z w) {s : ByteArray} (hs : s.size ≤ maxLen) :
  (Instr.lookup t (.map (some b)) (.string s) false).run P w = .ok ((f s).getD z) w:=by
 obtain ⟨D,h,_,h4,h5⟩:=h
 obtain ⟨v',ps,hrun,hv'⟩:=h.lookup (Maps.string_keyed hk) ht hz (zd:=.held z) (zp:=[]) rfl (WideMaps.keyOf_string_mk hk hs)
 cases hf : f s with
 | none =>
  have e1:=h5 s hf
  unfold skey at e1
  rw [e1] at hv'
  unfold tokR at hv'
  simp only [Option.some.injEq,Prod.mk.injEq,DataW.held.injEq] at hv'
  rw [hrun,hv'.1]
  rfl
 | some v =>
  have e1:=h4 s v hf
  unfold skey at e1
  rw [e1] at hv'
  unfold tokR at hv'
  simp only [Option.some.injEq,Prod.mk.injEq,DataW.held.injEq] at hv'
  rw [hrun,hv'.1]
  rfl
theorem size_put_new {H : Type} {D : DataW H} {kl : Lit} (hD : IsMap D) (h : Maps.has D kl = false) (d : DataW H) : Maps.size (D.put kl d) = Maps.size D + 1:=by
 obtain ⟨es,rfl⟩:=hD
 rw [DataW.put_eq]
 show (ChangeMaps.putKey kl d es).length = es.length + 1
 unfold ChangeMaps.putKey
 rw [DataW.length_insert]
 have : es.filter (ChangeMaps.notKey kl) = es:=by
  rw [List.filter_eq_self]
  intro p hp
  rw [Maps.has_eq] at h
  have:=List.any_eq_false.1 h p hp
  unfold ChangeMaps.notKey
  simpa using this
 rw [this]
theorem MapP.store {t e : TypeId} (h : MapP P k w b n f) (hk : P.underlying k = some .string) (ht : P.underlying t = some (.map k e)) (hn : n < maxLen) {s : ByteArray} (hs : s.size ≤ maxLen) (hf : f s = none) (v : Value) :
  ∃ w',(Instr.mapUpdate t (.map (some b)) (.string s) v).run P w = .ok () w' ∧ (∀ g : ByteArray → Option Value,g s = some v → (∀ x,x ≠ s → g x = f x) → MapP P k w' b (n + 1) g) ∧ w.grownBy w' (some b):=by
 obtain ⟨D,h,hsz,h4,h5⟩:=h
 obtain ⟨w',hrun,ho,hg⟩:=h.update (Maps.string_keyed hk) ht hn (WideMaps.keyOf_string_mk hk hs) (val:=v) (d:=.held v) (ps:=[]) rfl
 have hkey:=(Maps.string_keyed hk).key (WideMaps.keyOf_string_mk hk hs)
 have hne : ∀ x : ByteArray,x ≠ s → skey x ≠ .string s.data.toList:=fun x hx e => by
  unfold skey at e
  simp only [Lit.string.injEq] at e
  exact hx (bytes_eq e)
 refine ⟨w',hrun,fun g hgs hgo => ⟨_,ho,by have e9:=size_put_new h.isMap (Maps.has_false_of_atKey (h5 s hf)) (.held v); unfold skey at e9; rw [e9,hsz],fun x u hx z => ?_,fun x hx z => ?_⟩,hg⟩
 ·by_cases e : x = s
  ·subst e
   rw [hgs] at hx
   simp only [Option.some.injEq] at hx
   subst hx
   exact Maps.atKey_put_same h.isMap hkey _ _
  ·rw [Maps.atKey_put_other (hne x e)]
   rw [hgo x e] at hx
   exact h4 x u hx z
 ·have e : x ≠ s:=fun e => by
   subst e
   rw [hgs] at hx
   cases hx
  rw [Maps.atKey_put_other (hne x e)]
  rw [hgo x e] at hx
  exact h5 x hx z
end Go.Proofs.YtjjldnkhadakcaaGreat
