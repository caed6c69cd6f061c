import Derived.Test.YtajabbnlbopcbaaGreatDoorTxtB
import Derived.Test.YtajabbnlbopcbaaGreatDoorData
import Derived.Test.YtajabbnlbopcbaaGreatDoorProg
import Derived.WalkLawsBesides
import Derived.Deep.AppendSrc
import Derived.OwnWalk
import Derived.Test.YtajabbnlbopcbaaGreatDoorImplName
import Derived.Deep.RegionHeld3
namespace Go.Proofs.YtajabbnlbopcbaaGreatDoor
open Go.RowKit
set_option linter.unusedSimpArgs false
set_option linter.unusedVariables false
theorem wf_nm {s : ByteArray} (h : plainB s = true) : wfP (nmP s):=Or.inr (Or.inl ⟨rfl,rfl,h⟩)
theorem wf_fx {s : ByteArray} (h : (kwB s || symB s) = true) : wfP (fx s):=Or.inr (Or.inr (Or.inr ⟨rfl,rfl,h⟩))
theorem wf_nu {n : Int} (h : 0 ≤ n ∧ n ≤ 2147483647) : wfP (nuP n):=Or.inr (Or.inr (Or.inl ⟨rfl,h.1,h.2,rfl⟩))
theorem wf_sp : wfP spP:=Or.inl ⟨rfl,rfl,Or.inl rfl⟩
theorem wf_nl : wfP nlP:=Or.inl ⟨rfl,rfl,Or.inr rfl⟩
theorem hd_nm {s : ByteArray} (h : plainB s = true) : wordB (byt s 0) = true:=let_word (plain_parts h).2.1
theorem dcT_at {n : Int} (h : 0 ≤ n) : ∃ u : Nat,n = u ∧ dcT n = dcN u:=by
 obtain ⟨u,rfl⟩ : ∃ u : Nat,n = u:=⟨n.toNat,by omega⟩
 exact ⟨u,rfl,dcT_nat u⟩
theorem hd_nu {n : Int} (h : 0 ≤ n) : wordB (byt (dcT n) 0) = true:=by
 obtain ⟨u,rfl,e⟩:=dcT_at h
 rw [e]
 exact dig_word (dcN_dig u 0 (dcN_pos u))
theorem ok_word {k : Nat} {t : ByteArray} {nx : Int} (h : wordB nx = false) (ht : wordB (byt t 0) = true) : okN k t nx = true:=by
 unfold okN
 rw [if_pos ht,h]
 simp
def easyB (t : ByteArray) : Bool:=!wordB (byt t 0) && !(byt t 0 == 45) && !(t.size == 1 && (byt t 0 == 60 || byt t 0 == 62))
theorem ok_easy {k : Nat} {t : ByteArray} (nx : Int) (h : easyB t = true) : okN k t nx = true:=by
 unfold easyB at h
 unfold okN
 simp only [Bool.and_eq_true,Bool.not_eq_true',Bool.or_eq_false_iff,Bool.and_eq_false_iff] at h
 obtain ⟨⟨h1,h2⟩,h3⟩:=h
 rw [h1,h2]
 rcases h3 with h3 | ⟨h3,h4⟩
 ·simp [h3]
 ·simp [h3,h4]
theorem ok_space {k : Nat} {t : ByteArray} : okN k t 32 = true:=by
 have h : wordB 32 = false:=by decide
 unfold okN
 split <;> simp [h]
theorem gd_cons {p : Pc} {r : List Pc} {nx : Int} (h1 : wfP p) (h2 : okN p.kind p.text (hdB r nx) = true) (h3 : gdP r nx) : gdP (p :: r) nx:=⟨h1,h2,h3⟩
theorem gd_sp {r : List Pc} {nx : Int} (h : gdP r nx) : gdP (spP :: r) nx:=⟨wf_sp,rfl,h⟩
theorem gd_nl {r : List Pc} {nx : Int} (h : gdP r nx) : gdP (nlP :: r) nx:=⟨wf_nl,rfl,h⟩
theorem gd_easy {s : ByteArray} {r : List Pc} {nx : Int} (hw : (kwB s || symB s) = true) (he : easyB s = true) (h : gdP r nx) : gdP (fx s :: r) nx:=⟨wf_fx hw,ok_easy _ he,h⟩
theorem gd_any {p : Pc} {r : List Pc} {nx : Int} (hw : wfP p) (h : gdP r nx) : gdP (p :: spP :: r) nx:=⟨hw,ok_space,gd_sp h⟩
theorem gd_word {p : Pc} {r : List Pc} {nx : Int} (hw : wfP p) (ht : wordB (byt p.text 0) = true) (hn : wordB (hdB r nx) = false) (h : gdP r nx) : gdP (p :: r) nx:=⟨hw,ok_word hn ht,h⟩
theorem sg_wf {op : Int} (h : 6 ≤ op ∧ op ≤ 19) : (kwB (sgT op) || symB (sgT op)) = true:=by
 have h9 : op = 6 ∨ op = 7 ∨ op = 8 ∨ op = 9 ∨ op = 10 ∨ op = 11 ∨ op = 12 ∨ op = 13 ∨ op = 14 ∨ op = 15 ∨ op = 16 ∨ op = 17 ∨ op = 18 ∨ op = 19:=by omega
 unfold kwB
 simp only [ByteArray.toList_eq]
 rcases h9 with rfl | rfl | rfl | rfl | rfl | rfl | rfl | rfl | rfl | rfl | rfl | rfl | rfl | rfl <;> decide
theorem fl_wf (v : Int) : (kwB (flT v) || symB (flT v)) = true ∧ wordB (byt (flT v) 0) = true:=by
 unfold kwB
 simp only [ByteArray.toList_eq]
 unfold flT
 split <;> decide
theorem cw_wf (b : Bool) : (kwB (cwP b).text || symB (cwP b).text) = true:=by
 unfold kwB
 simp only [ByteArray.toList_eq]
 cases b <;> decide
theorem gd_nv {v : Int} (hv : -2147483647 ≤ v ∧ v ≤ 2147483647) {r : List Pc} {nx : Int} (h : gdP r nx) : gdP (nvP v ++ spP :: r) nx:=by
 unfold nvP
 split
 ·refine gd_cons (wf_fx wKmin) ?_ (gd_any (wf_nu (by omega)) h)
  show okN 3 Kmin (byt (dcT (-v)) 0) = true
  have h1:=hd_nu (n:=-v) (by omega)
  have h2 : byt (dcT (-v)) 0 ≠ 45:=fun e => by rw [e] at h1; exact absurd h1 (by decide)
  have h3 : (byt (dcT (-v)) 0 == 45) = false:=by simpa using h2
  have h4 : wordB (byt Kmin 0) = false:=by decide
  have h5 : (byt Kmin 0 == 60) = false:=by decide
  have h6 : (byt Kmin 0 == 62) = false:=by decide
  unfold okN
  rw [h3,h4,h5,h6]
  simp
 ·exact gd_any (wf_nu (by omega)) h
theorem len2 {α : Type} {l : List α} (h : l.length = 2) : ∃ x y,l = [x,y]:=by
 match l,h with
 | [x,y],_ => exact ⟨x,y,rfl⟩
theorem Ex.good {c : List DItem} {ps : List Pc} (h : Ex c ps) : ∀ nx,wordB nx = false → gdP ps nx:=by
 refine Ex.ind (motive:=fun c ps => ∀ nx,wordB nx = false → gdP ps nx) h ?_
 intro t l ht hl _ ih nx hn
 obtain ⟨h0,hr,hnm⟩:=(it_iff t).1 ht.1
 have hpl:=ht.2
 have hsp : wordB 32 = false:=by decide
 have hcl : wordB (hdB [fx Kcl] nx) = false:=by show wordB 41 = false; decide
 have hcs : ∀ r,wordB (hdB (spP :: r) nx) = false:=fun r => by show wordB 32 = false; decide
 have hce : gdP [fx Kcl] nx:=gd_easy wKcl (by decide) trivial
 have hr' : loI t.op ≤ t.val ∧ t.val ≤ hiI t.op:=of_decide_eq_true hr
 unfold psT
 by_cases h1 : t.op = 1
 ·simp only [h1,loI,hiI] at hr'
  have hl0 : l.length = 0:=by rw [hl,h1]; rfl
  obtain rfl:=List.eq_nil_of_length_eq_zero hl0
  simp only [if_pos h1,List.map_nil,wvP]
  exact gd_word (wf_nu (by simpa using hr')) (hd_nu (by simpa using hr'.1)) hn trivial
 by_cases h2 : t.op = 2
 ·have hl0 : l.length = 0:=by rw [hl,h2]; rfl
  obtain rfl:=List.eq_nil_of_length_eq_zero hl0
  simp only [if_neg h1,if_pos h2,List.map_nil,wvP]
  exact gd_word (wf_fx (fl_wf _).1) (fl_wf _).2 hn trivial
 by_cases h3 : t.op = 3
 ·have hl0 : l.length = 0:=by rw [hl,h3]; rfl
  obtain rfl:=List.eq_nil_of_length_eq_zero hl0
  simp only [if_neg h1,if_neg h2,if_pos h3,List.map_nil,wvP]
  exact gd_word (wf_nm (hpl (Or.inl h3))) (hd_nm (hpl (Or.inl h3))) hn trivial
 by_cases h4 : t.op = 4
 ·obtain ⟨x,rfl⟩ : ∃ x,l = [x]:=List.length_eq_one_iff.1 (by rw [hl,h4]; rfl)
  simp only [if_neg h1,if_neg h2,if_neg h3,if_pos h4,List.map_cons,List.map_nil,wvP,List.cons_append,List.nil_append]
  refine gd_easy wKop (by decide) (gd_any (wf_fx wKmin) ?_)
  exact (gdP_app _ _ _).2 ⟨ih x (by simp) _ hcl,hce⟩
 by_cases h5 : t.op = 5
 ·obtain ⟨x,rfl⟩ : ∃ x,l = [x]:=List.length_eq_one_iff.1 (by rw [hl,h5]; rfl)
  simp only [if_neg h1,if_neg h2,if_neg h3,if_neg h4,if_pos h5,List.map_cons,List.map_nil,wvP,List.cons_append,List.nil_append]
  refine gd_easy wKop (by decide) (gd_any (wf_fx wKnot) ?_)
  exact (gdP_app _ _ _).2 ⟨ih x (by simp) _ hcl,hce⟩
 by_cases h20 : t.op = 20
 ·obtain ⟨x,y,z,rfl⟩ : ∃ x y z,l = [x,y,z]:=by
   have : l.length = 3:=by rw [hl,h20]; rfl
   match l,this with
   | [x,y,z],_ => exact ⟨x,y,z,rfl⟩
  simp only [if_neg h1,if_neg h2,if_neg h3,if_neg h4,if_neg h5,if_pos h20,List.map_cons,List.map_nil,wvP,List.cons_append,List.nil_append]
  refine gd_easy wKop (by decide) (gd_any (wf_fx wKif) ?_)
  refine (gdP_app _ _ _).2 ⟨ih x (by simp) _ (by show wordB 32 = false; decide),gd_sp (gd_any (wf_fx wKthen) ?_)⟩
  refine (gdP_app _ _ _).2 ⟨ih y (by simp) _ (by show wordB 32 = false; decide),gd_sp (gd_any (wf_fx wKelse) ?_)⟩
  exact (gdP_app _ _ _).2 ⟨ih z (by simp) _ hcl,hce⟩
 by_cases h21 : t.op = 21
 ·obtain ⟨x,rfl⟩ : ∃ x,l = [x]:=List.length_eq_one_iff.1 (by rw [hl,h21]; rfl)
  simp only [h21,loI,hiI] at hr'
  simp only [if_neg h1,if_neg h2,if_neg h3,if_neg h4,if_neg h5,if_neg h20,if_pos h21,List.map_cons,List.map_nil,wvP,List.cons_append,List.append_assoc,List.nil_append]
  refine gd_easy wKop (by decide) (gd_nv (by simpa using hr') (gd_any (wf_fx wKfby) ?_))
  exact (gdP_app _ _ _).2 ⟨ih x (by simp) _ hcl,hce⟩
 by_cases h22 : t.op = 22
 ·obtain ⟨x,rfl⟩ : ∃ x,l = [x]:=List.length_eq_one_iff.1 (by rw [hl,h22]; rfl)
  simp only [if_neg h1,if_neg h2,if_neg h3,if_neg h4,if_neg h5,if_neg h20,if_neg h21,if_pos h22,List.map_cons,List.map_nil,wvP,List.cons_append,List.nil_append]
  refine gd_easy wKop (by decide) (gd_any (wf_fx (fl_wf _).1) (gd_any (wf_fx wKfby) ?_))
  exact (gdP_app _ _ _).2 ⟨ih x (by simp) _ hcl,hce⟩
 by_cases h23 : t.op = 23
 ·obtain ⟨x,rfl⟩ : ∃ x,l = [x]:=List.length_eq_one_iff.1 (by rw [hl,h23]; rfl)
  have hp:=hpl (by omega)
  simp only [if_neg h1,if_neg h2,if_neg h3,if_neg h4,if_neg h5,if_neg h20,if_neg h21,if_neg h22,if_pos h23,List.map_cons,List.map_nil,wvP,List.cons_append,List.nil_append]
  refine gd_easy wKop (by decide) ((gdP_app _ _ _).2 ⟨ih x (by simp) _ (by show wordB 32 = false; decide),?_⟩)
  exact gd_sp (gd_any (wf_fx (cw_wf _)) (gd_word (wf_nm hp) (hd_nm hp) hcl hce))
 by_cases h24 : t.op = 24
 ·obtain ⟨x,y,rfl⟩ : ∃ x y,l = [x,y]:=len2 (by rw [hl,h24]; rfl)
  have hp:=hpl (by omega)
  simp only [if_neg h1,if_neg h2,if_neg h3,if_neg h4,if_neg h5,if_neg h20,if_neg h21,if_neg h22,if_neg h23,if_pos h24,List.map_cons,List.map_nil,wvP,List.cons_append,List.nil_append]
  refine gd_easy wKop (by decide) (gd_any (wf_fx wKmerge) (gd_any (wf_nm hp) ?_))
  refine (gdP_app _ _ _).2 ⟨ih x (by simp) _ (by show wordB 32 = false; decide),gd_sp ?_⟩
  exact (gdP_app _ _ _).2 ⟨ih y (by simp) _ hcl,hce⟩
 have har : arN t.op = 2:=by unfold arN ocI; simp [h1,h2,h3,h4,h5,h20,h21,h22,h23,show ¬ t.op = 25 by omega]
 obtain ⟨x,y,rfl⟩ : ∃ x y,l = [x,y]:=len2 (by rw [hl,har])
 simp only [if_neg h1,if_neg h2,if_neg h3,if_neg h4,if_neg h5,if_neg h20,if_neg h21,if_neg h22,if_neg h23,if_neg h24,List.map_cons,List.map_nil,wvP,List.cons_append,List.nil_append]
 refine gd_easy wKop (by decide) ((gdP_app _ _ _).2 ⟨ih x (by simp) _ (by show wordB 32 = false; decide),?_⟩)
 refine gd_sp (gd_any (wf_fx (sg_wf (op:=t.op) (by omega))) ?_)
 exact (gdP_app _ _ _).2 ⟨ih y (by simp) _ hcl,hce⟩
def jnP (sep : List Pc) : List (List Pc) → List Pc
 | [] => []
 | [x] => x
 | x :: y :: r => x ++ (sep ++ jnP sep (y :: r))
def cdP (c : DCond) : List Pc:=[spP,cwP c.on,spP,nmP c.name]
def dlP (v : DVar) : List Pc:=nmP v.name :: fx Kcol :: spP :: fx (if v.type = 2 then Kbool else Kint) :: v.clock.flatMap cdP
def dlsP (vs : List DVar) : List Pc:=jnP [fx Ksem,spP] (vs.map dlP)
def nmsP (ss : List ByteArray) : List Pc:=jnP [fx Kcom,spP] (ss.map (fun s => [nmP s]))
structure PEq where
 lhs : List ByteArray
 call : ByteArray
 exs : List CP
def PEq.eq (e : PEq) : DEq:=if e.call.size = 0 then ⟨e.lhs,(e.exs.headD ([],[])).1,e.call,[]⟩ else ⟨e.lhs,[],e.call,e.exs.map (·.1)⟩
def rhP (e : PEq) : List Pc:=if e.call.size = 0 then (e.exs.headD ([],[])).2 else nmP e.call :: fx Kop :: (jnP [fx Kcom,spP] (e.exs.map (·.2)) ++ [fx Kcl])
def eqP (e : PEq) : List Pc:=spP :: spP :: (nmsP e.lhs ++ (spP :: fx Keq :: spP :: (rhP e ++ [fx Ksem,nlP])))
structure PNode where
 name : ByteArray
 ins : List DVar
 outs : List DVar
 vars : List DVar
 eqs : List PEq
def PNode.node (n : PNode) : DNode:=⟨n.name,n.ins,n.outs,n.vars,n.eqs.map PEq.eq⟩
def ndP (n : PNode) : List Pc:=fx Knode :: spP :: nmP n.name :: fx Kop :: (dlsP n.ins ++ (fx Kcl :: spP :: fx Kret :: spP :: fx Kop :: (dlsP n.outs ++ (fx Kcl :: nlP :: ((if n.vars.length = 0 then [] else fx Kvar :: spP :: (dlsP n.vars ++ [fx Ksem,nlP])) ++ (fx Klet :: nlP :: (n.eqs.flatMap eqP ++ [fx Ktel,nlP])))))))
def prP (ns : List PNode) : List Pc:=ns.flatMap ndP
theorem jnP_fl (sep : List Pc) : ∀ xs : List (List Pc),flP (jnP sep xs) = jnT (flP sep) (xs.map flP)
 | [] => rfl
 | [x] => by rw [jnP,List.map_cons,List.map_nil,jnT_one]
 | x :: y :: r => by
  rw [jnP,flP_app,flP_app,jnP_fl sep (y :: r)]
  apply ByteArray.ext
  apply Array.ext'
  simp only [jnT,List.map_cons,ByteArray.data_append,Array.toList_append,Lib.join_cons,Lib.joinTail,List.flatten_cons,List.append_assoc]
theorem cdP_fl (c : DCond) : flP (cdP c) = cnT c.on c.name:=by
 unfold cdP cnT
 simp only [flP,ba_nil,spP,nmP,cwP,fx]
 rw [← ba_assoc,← ba_assoc]
 cases c.on <;> rfl
theorem cds_fl : ∀ (l : List DCond) (s : ByteArray),l.foldl (fun s c => s ++ cnT c.on c.name) s = s ++ flP (l.flatMap cdP)
 | [],s => by rw [List.foldl_nil,List.flatMap_nil,flP,ba_nil]
 | c :: l,s => by rw [List.foldl_cons,cds_fl l,List.flatMap_cons,flP_app,cdP_fl,ba_assoc]
theorem dlP_fl (v : DVar) : flP (dlP v) = dlT v:=by
 unfold dlT dlTo
 rw [List.take_length,cds_fl]
 unfold dlP
 simp only [flP,spP,nmP,fx]
 rw [ba_assoc]
 congr 1
 rw [← ba_assoc,← ba_assoc]
 congr 1
 split <;> rfl
theorem dlsP_fl (vs : List DVar) : flP (dlsP vs) = jnT Lsemi (vs.map dlT):=by
 unfold dlsP
 rw [jnP_fl,List.map_map]
 have e : flP [fx Ksem,spP] = Lsemi:=rfl
 rw [e]
 congr 1
 exact List.map_congr_left (fun v _ => dlP_fl v)
theorem nmsP_fl (ss : List ByteArray) : flP (nmsP ss) = jnT Lcomma ss:=by
 unfold nmsP
 rw [jnP_fl,List.map_map]
 have e : flP [fx Kcom,spP] = Lcomma:=rfl
 rw [e]
 congr 1
 conv => rhs; rw [← List.map_id ss]
 exact List.map_congr_left (fun s _ => fl1 _)
def okE (e : PEq) : Prop:=(∀ x ∈ e.exs,Ex x.1 x.2) ∧ (e.call.size = 0 → e.exs.length = 1)
theorem rhP_fl {e : PEq} (h : okE e) : flP (rhP e) = rhT e.eq:=by
 unfold rhP rhT PEq.eq
 by_cases hc : e.call.size = 0
 ·obtain ⟨x,hx⟩:=List.length_eq_one_iff.1 (h.2 hc)
  have h1:=h.1 x (by rw [hx]; simp)
  simp only [if_pos hc,hx,List.headD_cons]
  exact h1.text.symm
 ·simp only [if_neg hc]
  rw [flP,flP,flP_app,fl1,jnP_fl,List.map_map,List.map_map]
  have e1 : flP [fx Kcom,spP] = Lcomma:=rfl
  rw [e1]
  have e2 : e.exs.map (flP ∘ (·.2)) = e.exs.map (cdT ∘ (·.1)):=List.map_congr_left (fun x hx => (h.1 x hx).text.symm)
  have e3 : e.exs.map (flP ∘ fun x => x.2) = e.exs.map (cdT ∘ fun x => x.1):=e2
  rw [e3]
  rfl
theorem PEq.eq_lhs (e : PEq) : e.eq.lhs = e.lhs:=by unfold PEq.eq; split <;> rfl
theorem eqP_fl {e : PEq} (h : okE e) : flP (eqP e) = eqT e.eq:=by
 unfold eqP eqT
 simp only [flP,flP_app,ba_nil,rhP_fl h,nmsP_fl,PEq.eq_lhs,spP,fx,nlP]
 rw [← ba_assoc]
 congr 1
theorem flm_fl {α : Type} (f : α → List Pc) (g : α → ByteArray) (l : List α) (h : ∀ x ∈ l,flP (f x) = g x) : ∀ s,l.foldl (fun s x => s ++ g x) s = s ++ flP (l.flatMap f):=by
 induction l with
 | nil => intro s; rw [List.foldl_nil,List.flatMap_nil,flP,ba_nil]
 | cons x l ih => intro s; rw [List.foldl_cons,ih (fun y hy => h y (List.mem_cons_of_mem _ hy)),List.flatMap_cons,flP_app,h x (List.mem_cons_self ..),ba_assoc]
theorem cat_fl {α β : Type} (f : α → List Pc) (m : α → β) (g : β → ByteArray) (l : List α) (h : ∀ x ∈ l,flP (f x) = g (m x)) : catTo g (l.map m) (l.map m).length = flP (l.flatMap f):=by
 unfold catTo
 rw [List.take_length,List.foldl_map,flm_fl f (fun x => g (m x)) l h,ba_nil']
theorem ndP_fl {n : PNode} (h : ∀ e ∈ n.eqs,okE e) : flP (ndP n) = ndT n.node:=by
 unfold ndP ndT hdT vrT PNode.node
 simp only [flP,flP_app,ba_nil,dlsP_fl,nmP,fx,spP,nlP]
 rw [cat_fl eqP PEq.eq eqT n.eqs (fun e he => eqP_fl (h e he))]
 have e1 : ∀ x : ByteArray,Knode ++ ((⟨#[32]⟩ : ByteArray) ++ x) = Lnode ++ x:=fun x => by rw [← ba_assoc]; rfl
 have e2 : ∀ x : ByteArray,Kcl ++ ((⟨#[32]⟩ : ByteArray) ++ (Kret ++ ((⟨#[32]⟩ : ByteArray) ++ (Kop ++ x)))) = Lret ++ x:=fun x => by rw [← ba_assoc,← ba_assoc,← ba_assoc,← ba_assoc]; rfl
 have e3 : ∀ x : ByteArray,Kcl ++ ((⟨#[10]⟩ : ByteArray) ++ x) = Lcln ++ x:=fun x => by rw [← ba_assoc]; rfl
 have e4 : ∀ x : ByteArray,Klet ++ ((⟨#[10]⟩ : ByteArray) ++ x) = Llet ++ x:=fun x => by rw [← ba_assoc]; rfl
 have e5 : Ktel ++ (⟨#[10]⟩ : ByteArray) = Ltel:=rfl
 rw [e1,e2,e3,e4,e5]
 simp only [ba_assoc]
 have e6 : flP (if n.vars.length = 0 then [] else fx Kvar :: spP :: (dlsP n.vars ++ [fx Ksem,nlP])) = if n.vars.length = 0 then ByteArray.empty else Lvar ++ (jnT Lsemi (n.vars.map dlT) ++ Lend):=by
  split
  ·rfl
  ·simp only [flP,flP_app,ba_nil,dlsP_fl,fx,spP,nlP]
   rw [← ba_assoc]
   rfl
 rw [← e6]
 rfl
theorem prP_fl {ns : List PNode} (h : ∀ n ∈ ns,∀ e ∈ n.eqs,okE e) : flP (prP ns) = prT (ns.map PNode.node):=(cat_fl ndP PNode.node ndT ns (fun n hn => ndP_fl (h n hn))).symm
def okW (v : DVar) : Prop:=plainB v.name = true ∧ (v.type = 1 ∨ v.type = 2) ∧ v.clock.length ≤ 8 ∧ ∀ c ∈ v.clock,plainB c.name = true
def okQ (e : PEq) : Prop:=okE e ∧ (1 ≤ e.lhs.length ∧ e.lhs.length ≤ 500) ∧ (∀ s ∈ e.lhs,plainB s = true) ∧ (¬ e.call.size = 0 → plainB e.call = true) ∧ (e.call.size = 0 → e.lhs.length = 1) ∧ e.exs.length ≤ 500 ∧ ∀ x ∈ e.exs,x.1.length ≤ 3000
def okNd (n : PNode) : Prop:=plainB n.name = true ∧ (∀ v ∈ n.ins,okW v ∧ v.clock = []) ∧ (∀ v ∈ n.outs,okW v ∧ v.clock = []) ∧ (∀ v ∈ n.vars,okW v) ∧ (∀ e ∈ n.eqs,okQ e) ∧ 1 ≤ n.outs.length ∧ n.ins.length + n.outs.length + n.vars.length ≤ 500 ∧ 1 ≤ n.eqs.length ∧ n.eqs.length ≤ 500
def okPr (ns : List PNode) : Prop:=(1 ≤ ns.length ∧ ns.length ≤ 200) ∧ ∀ n ∈ ns,okNd n
theorem hd_cds (l : List DCond) (nx : Int) (h : wordB nx = false) : wordB (hdB (l.flatMap cdP) nx) = false:=by
 cases l with
 | nil => exact h
 | cons c l => show wordB 32 = false; decide
theorem gd_cds : ∀ (l : List DCond),(∀ c ∈ l,plainB c.name = true) → ∀ nx,wordB nx = false → gdP (l.flatMap cdP) nx
 | [],_,_,_ => trivial
 | c :: l,hc,nx,hn => by
  have h1:=hc c (List.mem_cons_self ..)
  rw [List.flatMap_cons]
  exact gd_sp (gd_any (wf_fx (cw_wf c.on)) (gd_word (wf_nm h1) (hd_nm h1) (hd_cds l nx hn) (gd_cds l (fun x hx => hc x (List.mem_cons_of_mem _ hx)) nx hn)))
theorem gd_dl {v : DVar} (h : okW v) (nx : Int) (hn : wordB nx = false) : gdP (dlP v) nx:=by
 obtain ⟨h1,h2,h3,h4⟩:=h
 unfold dlP
 refine gd_word (wf_nm h1) (hd_nm h1) (by show wordB 58 = false; decide) (gd_easy wKcol (by decide) (gd_sp ?_))
 have hw : (kwB (if v.type = 2 then Kbool else Kint) || symB (if v.type = 2 then Kbool else Kint)) = true ∧ wordB (byt (if v.type = 2 then Kbool else Kint) 0) = true:=by
  split
  ·exact ⟨wKbool,by decide⟩
  ·exact ⟨wKint,by decide⟩
 exact gd_word (wf_fx hw.1) hw.2 (hd_cds _ nx hn) (gd_cds _ h4 nx hn)
theorem gd_jn {s : ByteArray} (hs : (kwB s || symB s) = true) (he : easyB s = true) : ∀ (xs : List (List Pc)),(∀ x ∈ xs,∀ nx,wordB nx = false → gdP x nx) → ∀ nx,wordB nx = false → gdP (jnP [fx s,spP] xs) nx
 | [],_,_,_ => trivial
 | [x],hx,nx,hn => hx x (List.mem_cons_self ..) nx hn
 | x :: y :: r,hx,nx,hn => by
  have hw : wordB (byt s 0) = false:=by
   unfold easyB at he
   simp only [Bool.and_eq_true,Bool.not_eq_true'] at he
   exact he.1.1
  rw [jnP]
  exact (gdP_app _ _ _).2 ⟨hx x (List.mem_cons_self ..) _ hw,gd_easy hs he (gd_sp (gd_jn hs he (y :: r) (fun z hz => hx z (List.mem_cons_of_mem _ hz)) nx hn))⟩
theorem gd_dls {vs : List DVar} (h : ∀ v ∈ vs,okW v) (nx : Int) (hn : wordB nx = false) : gdP (dlsP vs) nx :=
 gd_jn wKsem (by decide) _ (fun x hx nx hn => by
  obtain ⟨v,hv,rfl⟩:=List.mem_map.1 hx
  exact gd_dl (h v hv) nx hn) nx hn
theorem gd_nms {ss : List ByteArray} (h : ∀ s ∈ ss,plainB s = true) (nx : Int) (hn : wordB nx = false) : gdP (nmsP ss) nx :=
 gd_jn wKcom (by decide) _ (fun x hx nx hn => by
  obtain ⟨v,hv,rfl⟩:=List.mem_map.1 hx
  exact gd_word (wf_nm (h v hv)) (hd_nm (h v hv)) hn trivial) nx hn
theorem gd_rh {e : PEq} (h : okQ e) (nx : Int) (hn : wordB nx = false) : gdP (rhP e) nx:=by
 obtain ⟨h1,h2,h3,h4,h5,h6,h7⟩:=h
 unfold rhP
 by_cases hc : e.call.size = 0
 ·obtain ⟨x,hx⟩:=List.length_eq_one_iff.1 (h1.2 hc)
  rw [if_pos hc,hx]
  exact (h1.1 x (by rw [hx]; simp)).good nx hn
 ·rw [if_neg hc]
  refine gd_word (wf_nm (h4 hc)) (hd_nm (h4 hc)) (by show wordB 40 = false; decide) (gd_easy wKop (by decide) ?_)
  refine (gdP_app _ _ _).2 ⟨gd_jn wKcom (by decide) _ (fun x hx nx hn => ?_) _ (by show wordB 41 = false; decide),gd_easy wKcl (by decide) trivial⟩
  obtain ⟨v,hv,rfl⟩:=List.mem_map.1 hx
  exact (h1.1 v hv).good nx hn
theorem gd_eq {e : PEq} (h : okQ e) (nx : Int) : gdP (eqP e) nx:=by
 unfold eqP
 refine gd_sp (gd_sp ((gdP_app _ _ _).2 ⟨gd_nms h.2.2.1 _ (by show wordB 32 = false; decide),gd_sp (gd_any (wf_fx wKeq) ?_)⟩))
 exact (gdP_app _ _ _).2 ⟨gd_rh h _ (by show wordB 59 = false; decide),gd_easy wKsem (by decide) (gd_nl trivial)⟩
theorem gd_flm {α : Type} (f : α → List Pc) : ∀ (l : List α),(∀ x ∈ l,∀ nx,gdP (f x) nx) → ∀ nx,gdP (l.flatMap f) nx
 | [],_,_ => trivial
 | x :: l,h,nx => by
  rw [List.flatMap_cons]
  exact (gdP_app _ _ _).2 ⟨h x (List.mem_cons_self ..) _,gd_flm f l (fun y hy => h y (List.mem_cons_of_mem _ hy)) nx⟩
theorem gd_nlw {p : Pc} {r : List Pc} {nx : Int} (hw : wfP p) (ht : wordB (byt p.text 0) = true) (h : gdP r nx) : gdP (p :: nlP :: r) nx:=gd_word hw ht (by show wordB 10 = false; decide) (gd_nl h)
theorem gd_nd {n : PNode} (h : okNd n) (nx : Int) : gdP (ndP n) nx:=by
 obtain ⟨h1,h2,h3,h4,h5,h6⟩:=h
 have hc : ∀ r,wordB (hdB (fx Kcl :: r) nx) = false:=fun r => by show wordB 41 = false; decide
 unfold ndP
 refine gd_any (wf_fx wKnode) (gd_word (wf_nm h1) (hd_nm h1) (by show wordB 40 = false; decide) (gd_easy wKop (by decide) ?_))
 refine (gdP_app _ _ _).2 ⟨gd_dls (fun v hv => (h2 v hv).1) _ (hc _),gd_easy wKcl (by decide) (gd_sp (gd_any (wf_fx wKret) (gd_easy wKop (by decide) ?_)))⟩
 refine (gdP_app _ _ _).2 ⟨gd_dls (fun v hv => (h3 v hv).1) _ (hc _),gd_easy wKcl (by decide) (gd_nl ?_)⟩
 refine (gdP_app _ _ _).2 ⟨?_,gd_nlw (wf_fx wKlet) (by decide) ((gdP_app _ _ _).2 ⟨gd_flm _ _ (fun e he nx => gd_eq (h5 e he) nx) _,gd_nlw (wf_fx wKtel) (by decide) trivial⟩)⟩
 split
 ·trivial
 ·exact gd_any (wf_fx wKvar) ((gdP_app _ _ _).2 ⟨gd_dls h4 _ (by show wordB 59 = false; decide),gd_easy wKsem (by decide) (gd_nl trivial)⟩)
theorem gd_pr {ns : List PNode} (h : okPr ns) (nx : Int) : gdP (prP ns) nx:=gd_flm _ _ (fun n hn nx => gd_nd (h.2 n hn) nx) nx
theorem var_of {v : DVar} (h : okW v) : varB v = true:=(var_iff v).2 ⟨plain_name h.1,h.2.1,h.2.2.1,List.all_eq_true.2 (fun c hc => plain_name (h.2.2.2 c hc))⟩
theorem port_of {v : DVar} (h : okW v ∧ v.clock = []) : portB v = true:=(port_iff v).2 ⟨by rw [h.2]; rfl,var_of h.1⟩
theorem eq_of {e : PEq} (h : okQ e) : eqB e.eq = true:=by
 obtain ⟨h1,h2,h3,h4,h5,h6,h7⟩:=h
 refine (eq_iff _).2 ?_
 unfold PEq.eq
 by_cases hc : e.call.size = 0
 ·obtain ⟨x,hx⟩:=List.length_eq_one_iff.1 (h1.2 hc)
  have hm : x ∈ e.exs:=by rw [hx]; simp
  rw [if_pos hc]
  refine ⟨⟨h2.1,h2.2,by simp⟩,List.all_eq_true.2 (fun s hs => plain_name (h3 s hs)),?_⟩
  rw [if_pos hc,hx]
  simp only [Bool.and_eq_true,decide_eq_true_iff]
  exact ⟨⟨h5 hc,rfl⟩,(h1.1 x hm).cd (h7 x hm)⟩
 ·rw [if_neg hc]
  refine ⟨⟨h2.1,h2.2,by simpa using h6⟩,List.all_eq_true.2 (fun s hs => plain_name (h3 s hs)),?_⟩
  rw [if_neg hc]
  simp only [Bool.and_eq_true,decide_eq_true_iff,List.all_eq_true]
  refine ⟨⟨plain_name (h4 hc),rfl⟩,fun c hc9 => ?_⟩
  obtain ⟨x,hx,rfl⟩:=List.mem_map.1 hc9
  exact (h1.1 x hx).cd (h7 x hx)
theorem nd_of {n : PNode} (h : okNd n) : nodeB n.node = true:=by
 obtain ⟨h1,h2,h3,h4,h5,h6,h7,h8,h9⟩:=h
 refine (node_iff _).2 ⟨⟨h6,h7,by simpa [PNode.node] using h8,by simpa [PNode.node] using h9⟩,plain_name h1,List.all_eq_true.2 (fun v hv => port_of (h2 v hv)),List.all_eq_true.2 (fun v hv => port_of (h3 v hv)),List.all_eq_true.2 (fun v hv => var_of (h4 v hv)),List.all_eq_true.2 (fun e he => ?_)⟩
 obtain ⟨x,hx,rfl⟩:=List.mem_map.1 he
 exact eq_of (h5 x hx)
theorem sh_of {ns : List PNode} (h : okPr ns) : shapeB (ns.map PNode.node) = true:=by
 simp only [shapeB,Bool.and_eq_true,decide_eq_true_iff,List.all_eq_true,List.length_map]
 refine ⟨h.1,fun n hn => ?_⟩
 obtain ⟨x,hx,rfl⟩:=List.mem_map.1 hn
 exact nd_of (h.2 x hx)
theorem tk_jn (s : ByteArray) : ∀ (xs : List (List Pc)),tkP (jnP [fx s,spP] xs) = jnP [fx s] (xs.map tkP)
 | [] => rfl
 | [x] => rfl
 | x :: y :: r => by
  rw [jnP,tkP_app,tkP_app,tk_jn s (y :: r)]
  rfl
theorem tk_flm {α : Type} (f : α → List Pc) : ∀ (l : List α),tkP (l.flatMap f) = l.flatMap (fun x => tkP (f x))
 | [] => rfl
 | x :: l => by rw [List.flatMap_cons,tkP_app,tk_flm f l,List.flatMap_cons]
theorem tk_tvP (v : Int) (r : List Pc) : tkP (tvP v :: r) = tvP v :: tkP r:=rfl
def cdK (c : DCond) : List Pc:=[cwP c.on,nmP c.name]
def dlK (v : DVar) : List Pc:=nmP v.name :: fx Kcol :: fx (if v.type = 2 then Kbool else Kint) :: v.clock.flatMap cdK
theorem dlP_tk (v : DVar) : tkP (dlP v) = dlK v:=by
 unfold dlP dlK
 rw [tkP_nm,tkP_fx,tkP_sp,tkP_fx,tk_flm]
 rfl
def dlsK (vs : List DVar) : List Pc:=jnP [fx Ksem] (vs.map dlK)
theorem dlsP_tk (vs : List DVar) : tkP (dlsP vs) = dlsK vs:=by
 unfold dlsP dlsK
 rw [tk_jn,List.map_map]
 congr 1
 exact List.map_congr_left (fun v _ => dlP_tk v)
def nmsK (ss : List ByteArray) : List Pc:=jnP [fx Kcom] (ss.map (fun s => [nmP s]))
theorem nmsP_tk (ss : List ByteArray) : tkP (nmsP ss) = nmsK ss:=by
 unfold nmsP nmsK
 rw [tk_jn,List.map_map]
 rfl
def rhK (e : PEq) : List Pc:=if e.call.size = 0 then tkP (e.exs.headD ([],[])).2 else nmP e.call :: fx Kop :: (jnP [fx Kcom] (e.exs.map (fun x => tkP x.2)) ++ [fx Kcl])
theorem rhP_tk (e : PEq) : tkP (rhP e) = rhK e:=by
 unfold rhP rhK
 split
 ·rfl
 ·rw [tkP_nm,tkP_fx,tkP_app,tk_jn,List.map_map]
  rfl
def eqK (e : PEq) : List Pc:=nmsK e.lhs ++ (fx Keq :: (rhK e ++ [fx Ksem]))
theorem eqP_tk (e : PEq) : tkP (eqP e) = eqK e:=by
 unfold eqP eqK
 rw [tkP_sp,tkP_sp,tkP_app,nmsP_tk,tkP_sp,tkP_fx,tkP_sp,tkP_app,rhP_tk]
 rfl
def vrK (n : PNode) : List Pc:=if n.vars.length = 0 then [] else fx Kvar :: (dlsK n.vars ++ [fx Ksem])
def ndK (n : PNode) : List Pc:=fx Knode :: nmP n.name :: fx Kop :: (dlsK n.ins ++ (fx Kcl :: fx Kret :: fx Kop :: (dlsK n.outs ++ (fx Kcl :: (vrK n ++ (fx Klet :: (n.eqs.flatMap eqK ++ [fx Ktel])))))))
theorem ndP_tk (n : PNode) : tkP (ndP n) = ndK n:=by
 unfold ndP ndK vrK
 have e : tkP (if n.vars.length = 0 then [] else fx Kvar :: spP :: (dlsP n.vars ++ [fx Ksem,nlP])) = if n.vars.length = 0 then [] else fx Kvar :: (dlsK n.vars ++ [fx Ksem]):=by
  split
  ·rfl
  ·rw [tkP_fx,tkP_sp,tkP_app,dlsP_tk]
   rfl
 rw [tkP_fx,tkP_sp,tkP_nm,tkP_fx,tkP_app,dlsP_tk,tkP_fx,tkP_sp,tkP_fx,tkP_sp,tkP_fx,tkP_app,dlsP_tk,tkP_fx,tkP_nl,tkP_app,e,tkP_fx,tkP_nl,tkP_app,tk_flm]
 have e2 : (fun x => tkP (eqP x)) = eqK:=funext eqP_tk
 rw [e2]
 rfl
theorem prP_tk (ns : List PNode) : tkP (prP ns) = ns.flatMap ndK:=by
 unfold prP
 rw [tk_flm]
 have e2 : (fun x => tkP (ndP x)) = ndK:=funext ndP_tk
 rw [e2]
theorem box_cell {B : Nat} {w w' : World} {cs : Array Value} {t : TypeId} (h : Below (w.heap.size + 1) (w.alloc (.cells cs t)) w') (j : Nat) : w'.cell? ⟨w.heap.size,j,none⟩ = cs[j]?:=by
 rw [h.cell (p:=⟨w.heap.size,j,none⟩) (Nat.lt_succ_self _),World.cell?_alloc_at _ _ _ _ rfl]
theorem box_of {w w' : World} {cs : Array Value} {t : TypeId} (h : Below (w.alloc (.cells cs t)).heap.size (w.alloc (.cells cs t)) w') : Below (w.heap.size + 1) (w.alloc (.cells cs t)) w':=by simpa using h
def BlkAt (w : World) (g : Nat) (e : TypeId) (cs : Array Value) : Prop:=w.heap[g]? = some (.cells cs e (0,0))
theorem BlkAt.lt {w : World} {g : Nat} {e : TypeId} {cs : Array Value} (h : BlkAt w g e cs) : g < w.heap.size:=(Array.getElem?_eq_some_iff.1 h).1
theorem BlkAt.cell {w : World} {g : Nat} {e : TypeId} {cs : Array Value} (h : BlkAt w g e cs) {i : Nat} {v : Value} (hi : cs[i]? = some v) : w.cell? ⟨g,i,none⟩ = some v:=by
 unfold BlkAt at h
 simp [World.cell?,h,hi]
theorem BlkAt.free {w : World} {g : Nat} {e : TypeId} {cs : Array Value} (h : BlkAt w g e cs) (i : Nat) : w.frozen? ⟨g,i,none⟩ = false:=by
 unfold BlkAt at h
 simp [World.frozen?,h]
theorem BlkAt.below {w w' : World} {g B : Nat} {e : TypeId} {cs : Array Value} (h : BlkAt w g e cs) (hb : Below B w w') (hg : g < B) : BlkAt w' g e cs:=(hb.block g hg).trans h
theorem BlkAt.set {w : World} {g : Nat} {e : TypeId} {cs : Array Value} (h : BlkAt w g e cs) (i : Nat) (v : Value) : BlkAt (w.setCell ⟨g,i,none⟩ v) g e (cs.setIfInBounds i v):=by
 unfold BlkAt at *
 simp only [World.setCell,Array.getElem?_modify,if_true,h,Option.map_some]
 simp
theorem wpList_make_row {P : Program} (w : World) {ops : Array Oper} {rest : List Oper} {o : Oper} {a : Act} {Q : Exit → Act → World → Prop}
  (hg : o.guard = none) (l c : Operand) (t : TypeId) (hop : o.op = Op.makeSlice t l c)
  (e : TypeId) (z : Value) (by' : Nat) (h1 : P.underlying t = some (.slice e)) (h2 : (P.info? e).map (fun i => (i.zero,i.size,i.bytes)) = some (some z,1,by')) (h3 : by' ≤ 100)
  (L : Int) (n : Nat) (hl : a.eval l = .int .i64 L) (hc : a.eval c = .int .i64 L) (hL : L = (n : Int)) (hn : n ≤ 1000000)
  (hK : ∀ w' cs,BlkAt w' w.heap.size e cs → cs.size = n → Below w.heap.size w w' → wpList P ops Q rest (a.put o.dst (.slice (some ⟨w.heap.size,0,none⟩) n n)) w') :
  wpList P ops Q (o :: rest) a w:=by
 refine wpList_plain hg fun K hK' => ?_
 obtain ⟨i,hi,hz,hs,hb⟩:=info_parts h2
 have hb' : (i.bytes : Int) * (n : Int) ≤ 281474976710656:=by
  have h : i.bytes * n ≤ 100 * 1000000:=Nat.mul_le_mul (by omega) hn
  have h' : ((i.bytes * n : Nat) : Int) ≤ 281474976710656:=by omega
  rwa [Int.natCast_mul] at h'
 have hr:=run_make (P:=P) w t e i z h1 hi hz .i64 .i64 n n (by omega) (Int.le_refl _) hb' (by omega)
 simp only [Int.toNat_natCast] at hr
 subst hL
 unfold Oper.wp
 simp [execOp,hop,hl,hc,hr,Result.andThen]
 refine hK' _ _ (hK _ (madeCells z.cells (n * i.size)) ?_ ?_ ((Below.refl _ _).alloc (Nat.le_refl _) _))
 ·show (w.heap.push _)[w.heap.size]? = _
  rw [Array.getElem?_push_size]
 ·rw [size_madeCells,hs,Nat.mul_one]
theorem blk_box (w : World) (cs : Array Value) (e : TypeId) : BlkAt (w.alloc (.cells cs e)) w.heap.size e cs:=by
 show (w.heap.push _)[w.heap.size]? = _
 rw [Array.getElem?_push_size]
theorem BlkAt.set3 {w : World} {g : Nat} {e : TypeId} {a b c x y z : Value} (h : BlkAt w g e #[a,b,c]) : BlkAt (((w.setCell ⟨g,0,none⟩ x).setCell ⟨g,1,none⟩ y).setCell ⟨g,2,none⟩ z) g e #[x,y,z]:=by
 have:=((h.set 0 x).set 1 y).set 2 z
 simpa using this
def condE (c d : DCond) : Bool:=(c.name.toList == d.name.toList) && (c.on == d.on)
def sameC (xs ys : List DCond) : Bool:=decide (xs.length = ys.length) && (xs.zip ys).all fun p => condE p.1 p.2
theorem sameC_no {xs ys : List DCond} (i : Nat) (h1 : i < xs.length) (h2 : i < ys.length) (h : condE xs[i] ys[i] = false) : sameC xs ys = false:=by
 have : ((xs.zip ys).all fun p => condE p.1 p.2) = false:=by
  rw [List.all_eq_false]
  refine ⟨(xs[i],ys[i]),?_,by simp [h]⟩
  have hz : i < (xs.zip ys).length:=by simp; omega
  have:=List.getElem_mem hz
  rwa [List.getElem_zip] at this
 unfold sameC
 rw [this,Bool.and_false]
theorem sameC_yes {xs ys : List DCond} (hl : xs.length = ys.length) (h : ∀ i (h1 : i < xs.length) (h2 : i < ys.length),condE xs[i] ys[i] = true) : sameC xs ys = true:=by
 unfold sameC
 rw [Bool.and_eq_true,decide_eq_true_iff,List.all_eq_true]
 refine ⟨hl,fun p hp => ?_⟩
 obtain ⟨i,hi,rfl⟩:=List.getElem_of_mem hp
 rw [List.getElem_zip]
 exact h i _ _
set_option maxHeartbeats 2000000 in
theorem l1SameClock_ok (xs ys : List DCond) (u v : Value) (w : World) (hu : SlAt 2 24 RCond 0 w u xs) (hv : SlAt 2 24 RCond 0 w v ys) :
  Calls Tryz.prog 82 #[u,v] w (Ans (.bool (sameC xs ys)) w):=by
 obtain ⟨a,ca,rfl,_,hn,hx⟩:=hu
 obtain ⟨b,cb,rfl,_,hm,hy⟩:=hv
 unfold Len at hn hm
 have HX:=hide hx
 have HY:=hide hy
 clear hx hy
 by_cases hl : xs.length = ys.length
 ·have HL:=hide hl
  rw [← hl]
  have hb : ((xs.length : Int) != (xs.length : Int)) = false:=by simp
  go_enter Tryz.func82,Tryz.ntmps82
  clear hl
  go_wp2
  go_loopg [13] xs.length (fun g i wr => ∃ (k : Nat),k ≤ xs.length ∧ g = xs.length - k ∧ i = .int .i64 k ∧ Below w.heap.size w wr ∧ ∀ i (h1 : i < xs.length) (h2 : i < ys.length),i < k → condE xs[i] ys[i] = true)
  case atStart => exact ⟨0,Nat.zero_le _,by omega,rfl,Below.refl _ _,fun i _ _ h => absurd h (Nat.not_lt_zero _)⟩
  case round =>
   obtain ⟨k,hk,hg,rfl,hbl,hall⟩:=hrel
   rename World => wN
   have HG:=hide hg
   have HALL:=hide hall
   have HBL:=hide hbl
   clear hg hall
   by_cases hlt : k < xs.length
   ·have hlt2 : k < ys.length:=by rw [← uh HL]; exact hlt
    obtain ⟨b1,o1,cs1,hbo1,_,hb1,hcs1,hc1,hR1⟩:=uh HX k hlt
    obtain ⟨b2,o2,cs2,hbo2,_,hb2,hcs2,hc2,hR2⟩:=uh HY k hlt2
    subst hbo1 hbo2
    obtain ⟨rfl,_⟩:=hR1
    obtain ⟨rfl,_⟩:=hR2
    have hd1 : ∀ j (hj : j < 2),wN.drew.cell? ⟨b1,o1 + k * 2 + j,none⟩ = some ([Value.string xs[k].name,.bool xs[k].on][j]'hj):=fun j hj => by rw [(hbl.drew).cell (p:=⟨b1,_,none⟩) hb1]; exact hc1 j hj
    have hd2 : ∀ j (hj : j < 2),wN.drew.cell? ⟨b2,o2 + k * 2 + j,none⟩ = some ([Value.string ys[k].name,.bool ys[k].on][j]'hj):=fun j hj => by rw [(hbl.drew).cell (p:=⟨b2,_,none⟩) hb2]; exact hc2 j hj
    have p0:=hd1 0 (by decide)
    have p1:=hd1 1 (by decide)
    have q0:=hd2 0 (by decide)
    have q1:=hd2 1 (by decide)
    simp only [Nat.mul_one,Nat.add_zero,List.getElem_cons_zero,List.getElem_cons_succ] at p0 p1 q0 q1
    have HN:=hide (sameC_no k hlt hlt2)
    have HA2 : Hid (condE xs[k] ys[k] = true → ∀ i (h1 : i < xs.length) (h2 : i < ys.length),i < k + 1 → condE xs[i] ys[i] = true):=fun he i h1 h2 h3 => by
     by_cases e : i = k
     ·subst e; exact he
     ·exact uh HALL i h1 h2 (by omega)
    have HCE : Hid (condE xs[k] ys[k] = ((xs[k].name.toList == ys[k].name.toList) && (xs[k].on == ys[k].on))):=rfl
    have hki : (k : Int) < (xs.length : Int):=by omega
    clear hd1 hd2 hc1 hc2 hcs1 hcs2
    generalize condE xs[k] ys[k] = ce at *
    generalize xs[k].name = n1 at *
    generalize ys[k].name = n2 at *
    generalize xs[k].on = t1 at *
    generalize ys[k].on = t2 at *
    cases hn : (n1.toList == n2.toList)
    ·have hcf : ce = false:=by rw [uh HCE,hn,Bool.false_and]
     have HS:=hide (uh HN hcf)
     clear HCE HN HA2 hcf
     go_wp2_with fail
     go_region_with (fail)
     all_goals
      go_wp2
      go_ret
      exact ⟨ret_bool (uh HS).symm,hbl.drew⟩
    ·cases t1 <;> cases t2
     case true.true =>
      have hcf : ce = true:=by rw [uh HCE,hn]; rfl
      have HS:=hide (uh HA2 hcf)
      clear HCE HN HA2 hcf
      go_wp2_with fail
      go_region_with (fail)
      all_goals
       go_wp2
       go_roundg (xs.length - (k + 1))
       case measure => have:=uh HG; omega
       case rel => exact ⟨k + 1,by omega,rfl,by go_num,hbl.drew,uh HS⟩
     case false.false =>
      have hcf : ce = true:=by rw [uh HCE,hn]; rfl
      have HS:=hide (uh HA2 hcf)
      clear HCE HN HA2 hcf
      go_wp2_with fail
      go_region_with (fail)
      all_goals
       go_wp2
       go_roundg (xs.length - (k + 1))
       case measure => have:=uh HG; omega
       case rel => exact ⟨k + 1,by omega,rfl,by go_num,hbl.drew,uh HS⟩
     all_goals
      have hcf : ce = false:=by rw [uh HCE,hn]; rfl
      have HS:=hide (uh HN hcf)
      clear HCE HN HA2 hcf
      go_wp2_with fail
      go_region_with (fail)
      all_goals
       go_wp2
       go_ret
       exact ⟨ret_bool (uh HS).symm,hbl.drew⟩
   ·have e : k = xs.length:=by omega
    have HS:=hide (sameC_yes (uh HL) (fun i h1 h2 => uh HALL i h1 h2 (by omega)))
    subst e
    go_wp2
    go_ret
    exact ⟨ret_bool (uh HS).symm,hbl⟩
 ·have HS : Hid (sameC xs ys = false):=by
   show sameC xs ys = false
   unfold sameC
   simp [hl]
  have hb : ((xs.length : Int) != (ys.length : Int)) = true:=by simp; omega
  clear hl
  go_enter Tryz.func82,Tryz.ntmps82
  go_wp2
  go_ret
  exact ⟨ret_bool (uh HS).symm,Below.refl _ _⟩
end Go.Proofs.YtajabbnlbopcbaaGreatDoor
