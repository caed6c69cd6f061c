import Derived.Test.YtjjldnkhadakcaaGreatMQ1
import Derived.Test.YtjjldnkhadakcaaGreatEvI
import Derived.Test.YtjjldnkhadakcaaGreatMI4
namespace Go.Proofs.YtjjldnkhadakcaaGreat
open Go.RowKit
set_option linter.unusedSimpArgs false
set_option linter.unusedVariables false
def cfB (k : DClass) (code : List DItem) : Bool:=decide (code.length ≤ 6000) && code.all (itFB k) && wk code 0
theorem inB_place (l : List ByteArray) (s : ByteArray) : inB l s = decide (0 ≤ placeI l s):=by
 rw [Bool.eq_iff_iff,decide_eq_true_iff]
 have h:=place_neg l s
 unfold inB
 rw [List.any_eq_true]
 constructor
 ·rintro ⟨x,hx,e⟩
  rw [bytes_toList,decide_eq_true_iff] at e
  by_cases hh : 0 ≤ placeI l s
  ·exact hh
  ·exact absurd e ((h.1 (by omega)) x hx)
 ·intro hh
  by_cases g : ∃ x,x ∈ l ∧ (x.toList == s.toList) = true
  ·exact g
  ·exfalso
   have : placeI l s < 0:=h.2 (fun x hx e => g ⟨x,hx,by rw [bytes_toList,decide_eq_true_iff]; exact e⟩)
   omega
theorem itF_iff (k : DClass) (t : DItem) : itFB k t = true ↔ (1 ≤ t.op ∧ t.op ≤ 25) ∧ sItB t = true ∧ mItB k t = true:=by
 unfold itFB
 by_cases h25 : t.op = 25
 ·rw [if_pos h25,sit_iff]
  simp only [nmB,mItB,h25,Bool.and_eq_true,decide_eq_true_iff]
  simp
  constructor
  ·rintro ⟨⟨a,b⟩,c⟩; exact ⟨a,by omega,c⟩
  ·rintro ⟨a,b,c⟩; exact ⟨⟨a,by omega⟩,c⟩
 ·rw [if_neg h25]
  by_cases h20 : 20 < t.op
  ·rw [if_pos h20]
   have : mItB k t = false:=by simp [mItB,h20,h25]
   simp [this]
  ·rw [if_neg h20,sit_iff]
   have e1 : mItB k t = (t.op != 3 || inB (varsOf k) t.name):=by
    simp [mItB,h20,h25]
   rw [e1,inB_place]
   cases hi : itB t
   ·rw [if_pos rfl]
    constructor
    ·intro h; cases h
    ·rintro ⟨a,⟨b,c⟩,_⟩
     have : itB t = true:=(it_iff t).2 ⟨by omega,c.resolve_left h25,b⟩
     rw [hi] at this; cases this
   ·rw [if_neg (by decide)]
    have h:=(it_iff t).1 hi
    by_cases h3 : t.op = 3
    ·rw [if_pos h3]
     simp only [h3]
     constructor
     ·intro g; exact ⟨by omega,⟨h.2.2,Or.inr h.2.1⟩,by simpa using g⟩
     ·rintro ⟨_,_,g⟩; simpa using g
    ·rw [if_neg h3]
     simp only [true_iff]
     exact ⟨by omega,⟨h.2.2,Or.inr h.2.1⟩,by simp [h3]⟩
theorem cf_same (k : DClass) (xs : List DItem) : cfB k xs = mcB k xs:=by
 rw [Bool.eq_iff_iff]
 simp only [cfB,mcB,scM,Bool.and_eq_true,decide_eq_true_iff,List.all_eq_true,bg_zero,bk_fw,List.reverse_reverse,List.mem_reverse]
 constructor
 ·rintro ⟨⟨h2,h3⟩,h4⟩
  have har : ∀ t,t ∈ xs → 0 ≤ arI t.op:=fun t ht => (ar_iff t.op).2 (by have:=((itF_iff k t).1 (h3 t ht)).1; omega)
  have h5 : fw xs 0 = some 1:=(wk_fw xs 0 (fun t ht => oc_ar _ (har t ht))).1 h4
  refine ⟨⟨⟨⟨?_,by omega⟩,har,by simpa using h5⟩,fun t ht => ((itF_iff k t).1 (h3 t ht)).2.1⟩,fun t ht => ((itF_iff k t).1 (h3 t ht)).2.2⟩
  cases xs with
  | nil => simp [fw] at h5
  | cons t ts => simp
 ·rintro ⟨⟨⟨⟨h1,h2⟩,h3,h4⟩,h5⟩,h6⟩
  refine ⟨⟨by omega,fun t ht => (itF_iff k t).2 ⟨(ar_iff t.op).1 (h3 t ht),h5 t ht,h6 t ht⟩⟩,?_⟩
  exact (wk_fw xs 0 (fun t ht => oc_ar _ (h3 t ht))).2 (by simpa using h4)
theorem place_at (l : List ByteArray) (s : ByteArray) (h : 0 ≤ placeI l s) : l[(placeI l s).toNat]? = some s:=by
 unfold placeI at *
 cases hf : l.findIdx? (fun x => x.toList == s.toList) with
 | none => rw [hf] at h; simp at h
 | some i =>
  obtain ⟨hi,h1,_⟩:=List.findIdx?_eq_some_iff_getElem.1 hf
  rw [bytes_toList,decide_eq_true_iff] at h1
  simp only [Int.toNat_natCast]
  rw [List.getElem?_eq_getElem hi,h1]
theorem place_inj (l : List ByteArray) (s x : ByteArray) (h : 0 ≤ placeI l s) (e : placeI l x = placeI l s) : x = s:=by
 have h1:=place_at l s h
 have h2:=place_at l x (by omega)
 rw [e,h1] at h2
 simpa using h2.symm
theorem place_first (l : List ByteArray) (i : Nat) (hi : i < l.length) : placeI l l[i] < (i : Int) ↔ ∃ j,∃ hj : j < l.length,j < i ∧ l[j] = l[i]:=by
 have h0 : 0 ≤ placeI l l[i]:=by
  by_cases h : 0 ≤ placeI l l[i]
  ·exact h
  ·exact absurd rfl ((place_neg l l[i]).1 (by omega) l[i] (List.getElem_mem hi))
 constructor
 ·intro h
  have h1:=place_at l l[i] h0
  refine ⟨(placeI l l[i]).toNat,by omega,by omega,?_⟩
  rw [List.getElem?_eq_getElem (by omega)] at h1
  simpa using h1
 ·rintro ⟨j,hj,hji,e⟩
  by_cases h : placeI l l[i] < (i : Int)
  ·exact h
  ·exfalso
   unfold placeI at h h0
   cases hf : l.findIdx? (fun x => x.toList == l[i].toList) with
   | none => rw [hf] at h0; simp at h0
   | some q =>
    obtain ⟨hq,_,h2⟩:=List.findIdx?_eq_some_iff_getElem.1 hf
    rw [hf] at h
    simp only at h
    have h3:=h2 j (by omega)
    rw [bytes_toList,e] at h3
    simp at h3
def cnt (k : DClass) (H : List ByteArray) (q : Nat) : Nat:=H.countP (fun y => placeI (varsOf k) y == (q : Int))
def tgB (k : DClass) (H : List ByteArray) (x : ByteArray) : Bool:=setB k x && decide (cnt k H (placeI (varsOf k) x).toNat = 0)
theorem cnt_zero (k : DClass) (H : List ByteArray) (x : ByteArray) (h : 0 ≤ placeI (varsOf k) x) : cnt k H (placeI (varsOf k) x).toNat = 0 ↔ ∀ y,y ∈ H → y ≠ x:=by
 unfold cnt
 rw [List.countP_eq_zero]
 constructor
 ·rintro g y hy rfl
  exact g y hy (by rw [beq_iff_eq]; omega)
 ·intro g y hy e
  rw [beq_iff_eq] at e
  exact g y hy (place_inj _ x y h (by omega))
theorem cnt_cons (k : DClass) (H : List ByteArray) (y : ByteArray) (q : Nat) : cnt k (y :: H) q = cnt k H q + if placeI (varsOf k) y = (q : Int) then 1 else 0:=by
 unfold cnt
 rw [List.countP_cons]
 congr 1
 by_cases e : placeI (varsOf k) y = (q : Int)
 ·rw [if_pos e,if_pos (by rw [beq_iff_eq]; exact e)]
 ·rw [if_neg e,if_neg (by rw [beq_iff_eq]; exact e)]
theorem tg_iff (k : DClass) (H : List ByteArray) (x : ByteArray) : tgB k H x = true ↔ setB k x = true ∧ ∀ y,y ∈ H → y ≠ x:=by
 unfold tgB
 rw [Bool.and_eq_true,decide_eq_true_iff]
 constructor
 ·rintro ⟨h1,h2⟩
  have : 0 ≤ placeI (varsOf k) x:=by unfold setB at h1; have:=of_decide_eq_true h1; omega
  exact ⟨h1,(cnt_zero k H x this).1 h2⟩
 ·rintro ⟨h1,h2⟩
  have : 0 ≤ placeI (varsOf k) x:=by unfold setB at h1; have:=of_decide_eq_true h1; omega
  exact ⟨h1,(cnt_zero k H x this).2 h2⟩
def dupB (k : DClass) (outs : List ByteArray) (i : Nat) : Bool:=match outs[i]? with
 | some x => (List.range i).any (fun j => match outs[j]? with | some y => placeI (varsOf k) y == placeI (varsOf k) x | none => false)
 | none => false
def oneB (k : DClass) (H : List ByteArray) (outs : List ByteArray) (i : Nat) : Bool:=match outs[i]? with
 | some x => tgB k H x && !dupB k outs i
 | none => false
def callI (ks : List DClass) (k : DClass) (H : List ByteArray) (s : DStm) : Bool :=
 if s.at_ < 0 ∨ (k.insts.length : Int) ≤ s.at_ then false
 else match ks[(k.insts.getD s.at_.toNat 0).toNat]? with
  | none => false
  | some g => decide (s.outs.length = g.outs.length ∧ s.args.length = g.ins.length) && s.args.all (cfB k) && (List.range s.outs.length).all (oneB k H s.outs)
def leafB (ks : List DClass) (k : DClass) (H : List ByteArray) (s : DStm) : Bool :=
 if s.kind = 1 then tgB k H s.name && cfB k s.code
 else if s.kind = 2 then decide (0 ≤ s.at_ ∧ s.at_ < (k.mems.length : Int)) && cfB k s.code
 else if s.kind = 3 then callI ks k H s
 else false
theorem dup_iff (k : DClass) (outs : List ByteArray) (i : Nat) (hi : i < outs.length) (h : 0 ≤ placeI (varsOf k) outs[i]) : dupB k outs i = decide (placeI outs outs[i] < (i : Int)):=by
 rw [Bool.eq_iff_iff,decide_eq_true_iff,place_first outs i hi]
 unfold dupB
 rw [List.getElem?_eq_getElem hi]
 simp only
 rw [List.any_eq_true]
 constructor
 ·rintro ⟨j,hj,e⟩
  rw [List.mem_range] at hj
  rw [List.getElem?_eq_getElem (by omega)] at e
  simp only [beq_iff_eq] at e
  exact ⟨j,by omega,hj,place_inj _ _ _ h e⟩
 ·rintro ⟨j,hj,hji,e⟩
  refine ⟨j,List.mem_range.2 hji,?_⟩
  rw [List.getElem?_eq_getElem hj,e]
  simp
theorem one_iff (k : DClass) (H : List ByteArray) (outs : List ByteArray) (i : Nat) (hi : i < outs.length) : oneB k H outs i = (!outBad k outs i && decide (∀ y,y ∈ H → y ≠ outs[i])):=by
 unfold oneB outBad
 rw [List.getElem?_eq_getElem hi]
 simp only
 rw [Bool.eq_iff_iff,Bool.and_eq_true,Bool.and_eq_true,tg_iff,decide_eq_true_iff]
 cases hs : setB k outs[i]
 ·simp
 ·have h0 : 0 ≤ placeI (varsOf k) outs[i]:=by unfold setB at hs; have:=of_decide_eq_true hs; omega
  rw [dup_iff k outs i hi h0]
  simp
  exact and_comm
theorem inB_iff (l : List ByteArray) (x : ByteArray) : inB l x = true ↔ x ∈ l:=by
 unfold inB
 rw [List.any_eq_true]
 constructor
 ·rintro ⟨y,hy,e⟩
  rw [bytes_toList,decide_eq_true_iff] at e
  exact e ▸ hy
 ·intro h
  exact ⟨x,h,by simp⟩
theorem callI_iff (ks : List DClass) (k : DClass) (H : List ByteArray) (s : DStm) : callI ks k H s = true ↔ callB ks k s = true ∧ ∀ y,y ∈ H → y ∉ s.outs:=by
 unfold callI callB
 by_cases ha : s.at_ < 0 ∨ (k.insts.length : Int) ≤ s.at_
 ·rw [if_pos ha,if_pos ha]; simp
 ·rw [if_neg ha,if_neg ha]
  cases ks[(k.insts.getD s.at_.toNat 0).toNat]? with
  | none => simp
  | some g =>
   simp only [Bool.and_eq_true,List.all_eq_true,List.mem_range]
   constructor
   ·rintro ⟨⟨h1,h2⟩,h3⟩
    refine ⟨⟨⟨h1,fun i hi => ?_⟩,fun c hc => by rw [← cf_same]; exact h2 c hc⟩,fun y hy hyo => ?_⟩
    ·have:=h3 i hi
     rw [one_iff k H s.outs i hi,Bool.and_eq_true] at this
     exact this.1
    ·obtain ⟨i,hi,e⟩:=List.getElem_of_mem hyo
     have:=h3 i hi
     rw [one_iff k H s.outs i hi,Bool.and_eq_true,decide_eq_true_iff] at this
     exact this.2 y hy e.symm
   ·rintro ⟨⟨⟨h1,h2⟩,h3⟩,h4⟩
    refine ⟨⟨h1,fun c hc => by rw [cf_same]; exact h3 c hc⟩,fun i hi => ?_⟩
    rw [one_iff k H s.outs i hi,Bool.and_eq_true,decide_eq_true_iff]
    exact ⟨h2 i hi,fun y hy e => h4 y hy (e ▸ List.getElem_mem hi)⟩
theorem un_iff (s : DStm) : unB s = true ↔ (s.kind = 1 ∨ s.kind = 4 ∨ s.name.size = 0) ∧ (s.kind = 2 ∨ s.kind = 3 ∨ s.at_ = 0) ∧ (s.kind = 3 ∨ (s.outs.length = 0 ∧ s.args.length = 0)) ∧ (s.kind = 1 ∨ s.kind = 2 ∨ s.code.length = 0):=by
 unfold unB
 simp only [Bool.and_eq_true,Bool.or_eq_true,decide_eq_true_iff]
 omega
theorem stm_un (ks : List DClass) (k : DClass) (s : DStm) : stmB ks k s = (unB s && stmTail ks k s):=by
 cases hu : unB s
 ·rw [Bool.false_and]
  have h : ¬ unB s = true:=by rw [hu]; decide
  rw [un_iff] at h
  by_cases h1 : s.kind = 1 ∨ s.kind = 4 ∨ s.name.size = 0
  ·by_cases h2 : s.kind = 2 ∨ s.kind = 3 ∨ s.at_ = 0
   ·by_cases h3 : s.kind = 3 ∨ (s.outs.length = 0 ∧ s.args.length = 0)
    ·exact stm_code ks k s (by omega) (by omega) (by omega)
    ·exact stm_oa ks k s (by omega) (by omega)
   ·exact stm_at ks k s (by omega) (by omega) (by omega)
  ·exact stm_name ks k s (by omega) (by omega)
 ·obtain ⟨h1,h2,h3,h4⟩:=(un_iff s).1 hu
  rw [Bool.true_and]
  exact stm_good ks k s h1 h2 h3 h4
theorem leaf_iff (ks : List DClass) (k : DClass) (H : List ByteArray) (s : DStm) (h4 : s.kind ≠ 4) (h5 : s.kind ≠ 5) (h6 : s.kind ≠ 6) : (unB s = true ∧ leafB ks k H s = true) ↔ stmB ks k s = true ∧ ∀ x,x ∈ H → wrB s x = false:=by
 rw [stm_un,Bool.and_eq_true,and_assoc]
 refine and_congr_right (fun _ => ?_)
 unfold leafB stmTail wrB
 by_cases h1 : s.kind = 1
 ·rw [if_pos h1,if_pos h1,Bool.and_eq_true,Bool.and_eq_true,tg_iff,cf_same]
  simp only [h1,bytes_toList]
  constructor
  ·rintro ⟨⟨a,b⟩,c⟩; exact ⟨⟨a,c⟩,fun x hx => by simp; exact fun e => b x hx e.symm⟩
  ·rintro ⟨⟨a,c⟩,b⟩; exact ⟨⟨a,fun y hy e => by have:=b y hy; simp at this; exact this e.symm⟩,c⟩
 ·rw [if_neg h1,if_neg h1]
  by_cases h2 : s.kind = 2
  ·rw [if_pos h2,if_pos h2,cf_same]
   simp [h2]
  ·rw [if_neg h2,if_neg h2,if_neg h4,if_neg (show ¬ (s.kind = 5 ∨ s.kind = 6) by omega)]
   by_cases h3 : s.kind = 3
   ·rw [if_pos h3,if_pos h3,callI_iff]
    refine and_congr_right (fun _ => ?_)
    simp only [h3]
    constructor
    ·intro g x hx
     have:=g x hx
     rw [← inB_iff] at this
     simpa using this
    ·intro g x hx
     have:=g x hx
     rw [← inB_iff]
     simpa using this
   ·rw [if_neg h3,if_neg h3]; simp
def listF (ks : List DClass) (k : DClass) : Nat → List DStm → List ByteArray → Int → Option (PL × List DStm)
 | 0,_,_,_ => none
 | f + 1,[],H,d => some (.nil,[])
 | f + 1,s :: r,H,d =>
  if s.kind = 5 ∨ s.kind = 6 then some (.nil,s :: r)
  else if 20 < d then none
  else if unB s = false then none
  else if s.kind = 4 then
   (if placeI (varsOf k) s.name < 0 then none
   else match listF ks k f r (s.name :: H) (d + 1) with
   | none => none
   | some (_,[]) => none
   | some (a,el :: r1) => if el.kind ≠ 5 ∨ unB el = false then none else match listF ks k f r1 (s.name :: H) (d + 1) with
    | none => none
    | some (_,[]) => none
    | some (b,en :: r2) => if en.kind ≠ 6 ∨ unB en = false then none else match listF ks k f r2 H d with
     | none => none
     | some (t,r3) => some (.br s a el b en t,r3))
  else if leafB ks k H s = false then none
  else match listF ks k f r H d with
   | none => none
   | some (t,r') => some (.leaf s t,r')
def RestOK (rest : List DStm) : Prop:=rest = [] ∨ ∃ s r,rest = s :: r ∧ (s.kind = 5 ∨ s.kind = 6)
theorem listF_sound (ks : List DClass) (k : DClass) : ∀ (f : Nat) (ss : List DStm) (H : List ByteArray) (d : Int) (t : PL) (rest : List DStm),listF ks k f ss H d = some (t,rest) →
  ss = t.flat ++ rest ∧ t.wf ∧ t.deep d ∧ t.free H ∧ (∀ s,s ∈ t.flat → stmB ks k s = true) ∧ RestOK rest:=by
 intro f
 induction f with
 | zero => intro ss H d t rest h; cases h
 | succ f ih =>
  intro ss H d t rest h
  cases ss with
  | nil =>
   simp only [listF,Option.some.injEq,Prod.mk.injEq] at h
   obtain ⟨rfl,rfl⟩:=h
   exact ⟨rfl,trivial,trivial,trivial,(fun s hs => by cases hs),Or.inl rfl⟩
  | cons s r =>
   rw [listF] at h
   split at h
   ·rename_i h56
    simp only [Option.some.injEq,Prod.mk.injEq] at h
    obtain ⟨rfl,rfl⟩:=h
    exact ⟨rfl,trivial,trivial,trivial,(fun s hs => by cases hs),Or.inr ⟨s,r,rfl,h56⟩⟩
   rename_i h56
   split at h
   ·cases h
   rename_i hd
   split at h
   ·cases h
   rename_i hu
   rw [Bool.not_eq_false] at hu
   split at h
   ·rename_i h4
    split at h
    ·cases h
    rename_i hpl
    split at h
    ·cases h
    ·cases h
    rename_i a el r1 ha
    split at h
    ·cases h
    rename_i hel
    split at h
    ·cases h
    ·cases h
    rename_i b en r2 hb
    split at h
    ·cases h
    rename_i hen
    split at h
    ·cases h
    rename_i t' r3 ht
    simp only [Option.some.injEq,Prod.mk.injEq] at h
    obtain ⟨rfl,rfl⟩:=h
    obtain ⟨a1,a2,a3,a4,a5,a6⟩:=ih _ _ _ _ _ ha
    obtain ⟨b1,b2,b3,b4,b5,b6⟩:=ih _ _ _ _ _ hb
    obtain ⟨c1,c2,c3,c4,c5,c6⟩:=ih _ _ _ _ _ ht
    have hel' : el.kind = 5 ∧ unB el = true:=⟨by omega,by cases hh : unB el; exact absurd (Or.inr hh) hel; rfl⟩
    have hen' : en.kind = 6 ∧ unB en = true:=⟨by omega,by cases hh : unB en; exact absurd (Or.inr hh) hen; rfl⟩
    have s4 : stmB ks k s = true:=by
     rw [stm_un,hu,Bool.true_and]
     unfold stmTail
     rw [if_neg (by omega),if_neg (by omega),if_pos h4,inB_place]
     exact decide_eq_true (by omega)
    have s5 : ∀ x : DStm,x.kind = 5 ∨ x.kind = 6 → unB x = true → stmB ks k x = true:=fun x hx hxu => by
     rw [stm_un,hxu,Bool.true_and]
     unfold stmTail
     rw [if_neg (by omega),if_neg (by omega),if_neg (by omega),if_pos hx]
    refine ⟨?_,⟨⟨h4,hel'.1,hen'.1⟩,a2,b2,c2⟩,⟨by omega,a3,b3,c3⟩,⟨a4,b4,c4⟩,fun x hx => ?_,c6⟩
    ·rw [a1,b1,c1]
     simp [PL.flat]
    ·simp only [PL.flat,List.mem_cons,List.mem_append] at hx
     rcases hx with rfl | hx | rfl | hx | rfl | hx
     ·exact s4
     ·exact a5 x hx
     ·exact s5 _ (Or.inl hel'.1) hel'.2
     ·exact b5 x hx
     ·exact s5 _ (Or.inr hen'.1) hen'.2
     ·exact c5 x hx
   ·rename_i h4
    split at h
    ·cases h
    rename_i hlf
    rw [Bool.not_eq_false] at hlf
    split at h
    ·cases h
    rename_i t' r' ht
    simp only [Option.some.injEq,Prod.mk.injEq] at h
    obtain ⟨rfl,rfl⟩:=h
    obtain ⟨c1,c2,c3,c4,c5,c6⟩:=ih _ _ _ _ _ ht
    obtain ⟨l1,l2⟩:=(leaf_iff ks k H s h4 (by omega) (by omega)).1 ⟨hu,hlf⟩
    refine ⟨by rw [c1]; rfl,⟨⟨h4,by omega,by omega⟩,c2⟩,⟨by omega,c3⟩,⟨l2,c4⟩,fun x hx => ?_,c6⟩
    simp only [PL.flat,List.mem_cons] at hx
    rcases hx with rfl | hx
    ·exact l1
    ·exact c5 x hx
theorem listF_complete (ks : List DClass) (k : DClass) (t : PL) : ∀ (f : Nat) (H : List ByteArray) (d : Int) (rest : List DStm),t.wf → t.deep d → t.free H → (∀ s,s ∈ t.flat → stmB ks k s = true) → RestOK rest → t.flat.length < f → listF ks k f (t.flat ++ rest) H d = some (t,rest):=by
 induction t using PL.ind with
 | nil =>
  intro f H d rest _ _ _ _ hr hf
  obtain ⟨f,rfl⟩ : ∃ g,f = g + 1:=⟨f - 1,by omega⟩
  rcases hr with rfl | ⟨s,r,rfl,h⟩
  ·rfl
  ·simp only [PL.flat,List.nil_append]
   rw [listF,if_pos h]
 | leaf s r ih =>
  intro f H d rest hw hd hfr hst hr hf
  obtain ⟨⟨h4,h5,h6⟩,hw⟩:=hw
  obtain ⟨hd0,hd⟩:=hd
  obtain ⟨hx,hfr⟩:=hfr
  simp only [PL.flat,List.length_cons] at hf
  obtain ⟨f,rfl⟩ : ∃ g,f = g + 1:=⟨f - 1,by omega⟩
  obtain ⟨u1,u2⟩:=(leaf_iff ks k H s h4 h5 h6).2 ⟨hst s (by simp [PL.flat]),hx⟩
  have:=ih f H d rest hw hd hfr (fun x hx => hst x (by simp [PL.flat,hx])) hr (by omega)
  simp only [PL.flat,List.cons_append]
  rw [listF,if_neg (by omega),if_neg (by omega),if_neg (by rw [u1]; decide),if_neg h4,if_neg (by rw [u2]; decide),this]
 | br s a el b en r iha ihb ihr =>
  intro f H d rest hw hd hfr hst hr hf
  obtain ⟨⟨h4,h5,h6⟩,wa,wb,wr⟩:=hw
  obtain ⟨hd0,da,db,dr⟩:=hd
  obtain ⟨fa,fb,fr⟩:=hfr
  simp only [PL.flat,List.length_cons,List.length_append] at hf
  obtain ⟨f,rfl⟩ : ∃ g,f = g + 1:=⟨f - 1,by omega⟩
  have s4:=hst s (by simp [PL.flat])
  have s5:=hst el (by simp [PL.flat])
  have s6:=hst en (by simp [PL.flat])
  rw [stm_un,Bool.and_eq_true] at s4 s5 s6
  have hpl : ¬ placeI (varsOf k) s.name < 0:=by
   have:=s4.2
   unfold stmTail at this
   rw [if_neg (by omega),if_neg (by omega),if_pos h4,inB_place] at this
   have:=of_decide_eq_true this
   omega
  have ea:=iha f (s.name :: H) (d + 1) (el :: (b.flat ++ en :: (r.flat ++ rest))) wa da fa (fun x hx => hst x (by simp [PL.flat,hx])) (Or.inr ⟨_,_,rfl,Or.inl h5⟩) (by omega)
  have eb:=ihb f (s.name :: H) (d + 1) (en :: (r.flat ++ rest)) wb db fb (fun x hx => hst x (by simp [PL.flat,hx])) (Or.inr ⟨_,_,rfl,Or.inr h6⟩) (by omega)
  have er:=ihr f H d rest wr dr fr (fun x hx => hst x (by simp [PL.flat,hx])) hr (by omega)
  simp only [PL.flat,List.cons_append,List.append_assoc]
  rw [listF,if_neg (by omega),if_neg (by omega),if_neg (by rw [s4.1]; decide),if_pos h4,if_neg hpl,ea]
  simp only
  rw [if_neg (by rw [s5.1]; simp [h5]),eb]
  simp only
  rw [if_neg (by rw [s6.1]; simp [h6]),er]
def bodyB (ks : List DClass) (k : DClass) : Bool:=k.body.all (stmB ks k) && (nestF (k.body.length + 1) (kindsOf k.body) 0 && (List.range k.body.length).all (fun j => !ifBad k.body j))
theorem body_tree (ks : List DClass) (k : DClass) : bodyB ks k = true ↔ ∃ t,listF ks k (k.body.length + 1) k.body [] 0 = some (t,[]):=by
 unfold bodyB
 simp only [Bool.and_eq_true]
 constructor
 ·rintro ⟨h1,h2,h3⟩
  obtain ⟨t,rfl',wf,dp⟩:=nest_tree _ k.body 0 (Nat.lt_succ_self _) h2 (Or.inl (by omega))
  refine ⟨t,?_⟩
  rw [← rfl'] at h1 h3 ⊢
  have:=listF_complete ks k t (t.flat.length + 1) [] 0 [] wf dp ((free_flat t wf).1 h3) (List.all_eq_true.1 h1) (Or.inl rfl) (Nat.lt_succ_self _)
  rwa [List.append_nil] at this
 ·rintro ⟨t,h⟩
  obtain ⟨a1,a2,a3,a4,a5,a6⟩:=listF_sound ks k _ _ _ _ _ _ h
  rw [List.append_nil] at a1
  rw [a1]
  exact ⟨List.all_eq_true.2 a5,nest_iff t a2 a3,(free_flat t a2).2 a4⟩
theorem body_sum (ks : List DClass) (k : DClass) (known : List Int) (t : PL) (h : listF ks k (k.body.length + 1) k.body [] 0 = some (t,[])) : sumF (k.body.length + 1) (costs k.insts known k.body) = t.cost (knOf k.insts known) 0:=by
 obtain ⟨a1,a2,_⟩:=listF_sound ks k _ _ _ _ _ _ h
 rw [List.append_nil] at a1
 rw [a1]
 exact sum_flat k.insts known t a2
end Go.Proofs.YtjjldnkhadakcaaGreat
