import Derived.Test.YtajabbnlbopcbaaGreatDoorImplName
namespace Go.Proofs.YtajabbnlbopcbaaGreatDoor
open Go.RowKit
set_option linter.unusedSimpArgs false
set_option linter.unusedVariables false
def szs (l : List ByteArray) : Nat:=(l.map (·.size)).sum
theorem szs_nil : szs [] = 0:=rfl
theorem szs_cons (x : ByteArray) (l : List ByteArray) : szs (x :: l) = x.size + szs l:=by simp [szs]
theorem szs_append (l m : List ByteArray) : szs (l ++ m) = szs l + szs m:=by simp [szs]
theorem szs_le (B : Nat) (l : List ByteArray) (h : ∀ x,x ∈ l → x.size ≤ B) : szs l ≤ B * l.length:=by
 induction l with
 | nil => simp [szs]
 | cons x l ih =>
  rw [szs_cons,List.length_cons,Nat.mul_succ]
  have h1:=h x (List.mem_cons_self ..)
  have h2:=ih (fun y hy => h y (List.mem_cons_of_mem _ hy))
  omega
theorem name_size (s : ByteArray) (h : nameB s = true) : s.size ≤ 40:=by
 simp only [nameB,plainB,freshB,Bool.or_eq_true,Bool.and_eq_true,decide_eq_true_iff] at h
 omega
theorem nd_le : ∀ (k u : Nat),u < 10 ^ (k + 1) → Lib.nDigits u ≤ k + 1
 | 0,u,h => by rw [Lib.nDigits_small (by simpa using h)]; exact Nat.le_refl _
 | k + 1,u,h => by
  by_cases hs : u < 10
  ·rw [Lib.nDigits_small hs]; omega
  ·rw [Lib.nDigits_big hs]
   have:=nd_le k (u / 10) (by rw [Nat.pow_succ] at h; omega)
   omega
theorem dd_len (u : Nat) (h : u < 10000000000) : (Lib.decDigits u).length ≤ 10:=by
 rw [Lib.decDigits_eq]
 have:=nd_le 9 u (by simpa using h)
 simpa using this
theorem dcT_size (n : Int) (h : -2147483647 ≤ n ∧ n ≤ 2147483647) : (dcT n).size ≤ 11:=by
 unfold dcT Lib.itoa
 simp only [ByteArray.size,List.size_toArray]
 split
 ·have:=dd_len n.natAbs (by omega)
  simp only [List.length_cons]
  omega
 ·have:=dd_len n.toNat (by omega)
  omega
theorem flT_size (v : Int) : (flT v).size ≤ 5:=by
 unfold flT
 split <;> decide
theorem cnT_size (on : Bool) (s : ByteArray) (h : s.size ≤ 40) : (cnT on s).size ≤ 48:=by
 unfold cnT
 rw [ba_size]
 have h1 : Lwhen.size ≤ 8:=by decide
 have h2 : Lwhenot.size ≤ 8:=by decide
 split <;> omega
theorem lits_size : Lneg.size ≤ 8 ∧ Lnot.size ≤ 8 ∧ Lcl.size ≤ 8 ∧ Lop.size ≤ 8 ∧ Lif.size ≤ 8 ∧ Lthen.size ≤ 8 ∧ Lelse.size ≤ 8 ∧ Lfby.size ≤ 8 ∧ Lmerge.size ≤ 8 ∧ Lsp.size ≤ 8:=by decide
theorem tsT_size (t : DItem) (h : itB t = true) : szs (tsT t) ≤ 100:=by
 obtain ⟨h0,hr,hn⟩:=(it_iff t).1 h
 obtain ⟨z1,z2,z3,z4,z5,z6,z7,z8,z9,z10⟩:=lits_size
 have hd : t.op = 1 ∨ t.op = 21 → (dcT t.val).size ≤ 11:=fun ho => by
  refine dcT_size _ ?_
  simp only [rgB,decide_eq_true_iff,loI,hiI] at hr
  rcases ho with ho | ho <;> simp [ho] at hr <;> omega
 have hf:=flT_size t.val
 have hnm : t.op = 3 ∨ t.op = 23 ∨ t.op = 24 → t.name.size ≤ 40:=fun ho => by
  simp only [nmB,if_pos ho] at hn
  exact name_size _ hn
 have hsg:=sgT_size t.op
 have hcn : t.op = 23 → (cnT (decide (t.val = 1)) t.name).size ≤ 48:=fun ho => cnT_size _ _ (hnm (by omega))
 unfold tsT
 by_cases h1 : t.op = 1
 ·simp only [h1,if_true,szs_cons,szs_nil]; have:=hd (Or.inl h1); omega
 by_cases h2 : t.op = 2
 ·simp only [if_neg h1,if_pos h2,szs_cons,szs_nil]; omega
 by_cases h3 : t.op = 3
 ·simp only [if_neg h1,if_neg h2,if_pos h3,szs_cons,szs_nil]; have:=hnm (Or.inl h3); omega
 by_cases h4 : t.op = 4
 ·simp only [if_neg h1,if_neg h2,if_neg h3,if_pos h4,szs_cons,szs_nil]; omega
 by_cases h5 : t.op = 5
 ·simp only [if_neg h1,if_neg h2,if_neg h3,if_neg h4,if_pos h5,szs_cons,szs_nil]; omega
 by_cases h20 : t.op = 20
 ·simp only [if_neg h1,if_neg h2,if_neg h3,if_neg h4,if_neg h5,if_pos h20,szs_cons,szs_nil]; omega
 by_cases h21 : t.op = 21
 ·simp only [if_neg h1,if_neg h2,if_neg h3,if_neg h4,if_neg h5,if_neg h20,if_pos h21,szs_cons,szs_nil,ba_size]; have:=hd (Or.inr h21); omega
 by_cases h22 : t.op = 22
 ·simp only [if_neg h1,if_neg h2,if_neg h3,if_neg h4,if_neg h5,if_neg h20,if_neg h21,if_pos h22,szs_cons,szs_nil,ba_size]; omega
 by_cases h23 : t.op = 23
 ·simp only [if_neg h1,if_neg h2,if_neg h3,if_neg h4,if_neg h5,if_neg h20,if_neg h21,if_neg h22,if_pos h23,szs_cons,szs_nil,ba_size]; have:=hcn h23; omega
 by_cases h24 : t.op = 24
 ·simp only [if_neg h1,if_neg h2,if_neg h3,if_neg h4,if_neg h5,if_neg h20,if_neg h21,if_neg h22,if_neg h23,if_pos h24,szs_cons,szs_nil,ba_size]; have:=hnm (by omega); omega
 simp only [if_neg h1,if_neg h2,if_neg h3,if_neg h4,if_neg h5,if_neg h20,if_neg h21,if_neg h22,if_neg h23,if_neg h24,szs_cons,szs_nil,ba_size]
 omega
theorem weave_size : ∀ ts us,(weave ts us).size ≤ szs ts + szs us
 | [],us => by simp [weave]
 | t :: ts,[] => by simp only [weave,szs_cons,szs_nil]; omega
 | t :: ts,u :: us => by
  have:=weave_size ts us
  simp only [weave,ba_size,szs_cons]
  omega
theorem ch_size {code : List DItem} (hit : ∀ t,t ∈ code → itB t = true) {b e : Nat} {ss : List ByteArray} (h : Ch code b e ss) : szs ss + 100 * b ≤ 100 * e:=by
 induction h using Ch.ind with
 | nil b => simp [szs]
 | @snoc b m e ss us h h1 h2 h3 i1 i2 =>
  have h4:=tsT_size code[e] (hit _ (List.getElem_mem h))
  have h5:=weave_size (tsT code[e]) us
  rw [szs_append,szs_cons,szs_nil]
  omega
def cdT (code : List DItem) : ByteArray:=opT code code.length
theorem cdT_ch {code : List DItem} (h : cdB code = true) : Ch code 0 code.length [cdT code]:=by
 have hw : wk code 0 = true:=by simp only [cdB,Bool.and_eq_true] at h; exact h.2
 have he:=ch_ex hw
 obtain ⟨s,he⟩:=he
 unfold cdT
 rw [opT_ch he]
 exact he
theorem cd_it {code : List DItem} (h : cdB code = true) : ∀ t,t ∈ code → itB t = true:=by
 simp only [cdB,Bool.and_eq_true,List.all_eq_true] at h
 exact h.1.2
theorem cd_len {code : List DItem} (h : cdB code = true) : 1 ≤ code.length ∧ code.length ≤ 3000:=by
 have hc:=cdT_ch h
 simp only [cdB,Bool.and_eq_true,decide_eq_true_iff] at h
 refine ⟨?_,h.1.1⟩
 obtain ⟨m,e1,s0,us,hlt,he,_⟩:=hc.snoc_inv (n:=0) rfl
 omega
theorem cdT_size {code : List DItem} (h : cdB code = true) : (cdT code).size ≤ 300000:=by
 have h1:=ch_size (cd_it h) (cdT_ch h)
 have h2:=(cd_len h).2
 simp only [szs_cons,szs_nil] at h1
 omega
theorem jnT_nil (sep : ByteArray) : jnT sep [] = ByteArray.empty:=rfl
theorem join_len (sep : ByteArray) (xs : List ByteArray) : (Lib.join (xs.map (·.data.toList)) sep.data.toList).length ≤ sep.size * xs.length + szs xs:=by
 cases xs with
 | nil => simp [Lib.join_nil]
 | cons x xs =>
  rw [List.map_cons,Lib.join_cons,List.length_append,Lib.joinTail_length]
  have : Lib.lens (xs.map (·.data.toList)) = szs xs:=by
   unfold Lib.lens szs
   rw [List.map_map]
   rfl
  rw [this,szs_cons,List.length_map,List.length_cons,Nat.mul_succ]
  simp only [Array.length_toList]
  have e1 : x.data.size = x.size:=rfl
  have e2 : sep.data.size = sep.size:=rfl
  rw [e1,e2]
  omega
theorem jnT_size (sep : ByteArray) (xs : List ByteArray) (B : Nat) (h : ∀ x,x ∈ xs → x.size ≤ B) : (jnT sep xs).size ≤ sep.size * xs.length + B * xs.length:=by
 have h1:=join_len sep xs
 have h2:=szs_le B xs h
 have : (jnT sep xs).size = (Lib.join (xs.map (·.data.toList)) sep.data.toList).length:=by simp [jnT,ByteArray.size]
 omega
theorem jnT_one (sep x : ByteArray) : jnT sep [x] = x:=by
 apply ByteArray.ext
 simp [jnT,Lib.join_one]
theorem jnT_step (sep : ByteArray) (xs : List ByteArray) (k : Nat) (h : k < xs.length) (hk : 1 ≤ k) : jnT sep (xs.take (k + 1)) = jnT sep (xs.take k) ++ sep ++ xs[k]:=by
 match xs,k,h,hk with
 | x :: xs,k + 1,h,_ =>
  apply ByteArray.ext
  apply Array.ext'
  have hx : (xs.map (·.data.toList))[k]? = some (xs[k]'(by simpa using h)).data.toList:=by
   have : k < xs.length:=by simpa using h
   simp [this]
  have hj:=Lib.joinTail_take_succ sep.data.toList (xs.map (·.data.toList)) k _ hx
  simp only [jnT,List.take_succ_cons,List.map_cons,Lib.join_cons,ByteArray.data_append,List.getElem_cons_succ,Array.toList_append]
  rw [List.map_take,List.map_take,hj]
  simp [List.append_assoc]
def dlTo (v : DVar) (k : Nat) : ByteArray:=(v.clock.take k).foldl (fun s c => s ++ cnT c.on c.name) (v.name ++ (if v.type = 2 then Lbool else Lint))
def dlT (v : DVar) : ByteArray:=dlTo v v.clock.length
theorem dlTo_zero (v : DVar) : dlTo v 0 = v.name ++ (if v.type = 2 then Lbool else Lint):=by simp [dlTo]
theorem dlTo_succ (v : DVar) (k : Nat) (h : k < v.clock.length) : dlTo v (k + 1) = dlTo v k ++ cnT v.clock[k].on v.clock[k].name:=by
 unfold dlTo
 rw [List.take_succ_eq_append_getElem h,List.foldl_append]
 rfl
theorem dlTo_size (v : DVar) (hv : varB v = true) : ∀ k,k ≤ v.clock.length → (dlTo v k).size ≤ 46 + 48 * k:=by
 obtain ⟨h1,h2,h3,h4⟩:=(var_iff v).1 hv
 have hn:=name_size _ h1
 intro k
 induction k with
 | zero =>
  intro _
  rw [dlTo_zero,ba_size]
  have z1 : Lbool.size ≤ 6:=by decide
  have z2 : Lint.size ≤ 6:=by decide
  split <;> omega
 | succ k ih =>
  intro hk
  rw [dlTo_succ v k (by omega),ba_size]
  have h5:=ih (by omega)
  have h6 : condB v.clock[k] = true:=List.all_eq_true.1 h4 _ (List.getElem_mem _)
  have h7:=cnT_size v.clock[k].on v.clock[k].name (name_size _ h6)
  omega
theorem dlT_size (v : DVar) (hv : varB v = true) : (dlT v).size ≤ 500:=by
 have h1:=dlTo_size v hv v.clock.length (Nat.le_refl _)
 have h2:=((var_iff v).1 hv).2.2.1
 unfold dlT
 omega
theorem dls_size (vs : List DVar) (hv : ∀ v,v ∈ vs → varB v = true) (hl : vs.length ≤ 500) : (jnT Lsemi (vs.map dlT)).size ≤ 251000:=by
 have h1:=jnT_size Lsemi (vs.map dlT) 500 (fun x hx => by
  obtain ⟨v,hvm,rfl⟩:=List.mem_map.1 hx
  exact dlT_size v (hv v hvm))
 have z : Lsemi.size = 2:=rfl
 rw [List.length_map,z] at h1
 omega
def rhT (e : DEq) : ByteArray:=if e.call.size = 0 then cdT e.code else e.call ++ (Lop ++ (jnT Lcomma (e.args.map cdT) ++ Lcl))
def eqT (e : DEq) : ByteArray:=Lind ++ (jnT Lcomma e.lhs ++ (Leq ++ (rhT e ++ Lend)))
def catTo {α : Type} (f : α → ByteArray) (l : List α) (k : Nat) : ByteArray:=(l.take k).foldl (fun s x => s ++ f x) ByteArray.empty
theorem catTo_zero {α : Type} (f : α → ByteArray) (l : List α) : catTo f l 0 = ByteArray.empty:=by simp [catTo]
theorem catTo_succ {α : Type} (f : α → ByteArray) (l : List α) (k : Nat) (h : k < l.length) : catTo f l (k + 1) = catTo f l k ++ f l[k]:=by
 unfold catTo
 rw [List.take_succ_eq_append_getElem h,List.foldl_append]
 rfl
theorem catTo_size {α : Type} (f : α → ByteArray) (l : List α) (B : Nat) (h : ∀ x,x ∈ l → (f x).size ≤ B) : ∀ k,k ≤ l.length → (catTo f l k).size ≤ B * k:=by
 intro k
 induction k with
 | zero => intro _; rw [catTo_zero]; simp
 | succ k ih =>
  intro hk
  rw [catTo_succ f l k (by omega),ba_size,Nat.mul_succ]
  have h1:=ih (by omega)
  have h2:=h l[k] (List.getElem_mem _)
  omega
def hdT (n : DNode) : ByteArray:=Lnode ++ (n.name ++ (Lop ++ (jnT Lsemi (n.ins.map dlT) ++ (Lret ++ (jnT Lsemi (n.outs.map dlT) ++ Lcln)))))
def vrT (n : DNode) : ByteArray:=if n.vars.length = 0 then ByteArray.empty else Lvar ++ (jnT Lsemi (n.vars.map dlT) ++ Lend)
def ndT (n : DNode) : ByteArray:=hdT n ++ (vrT n ++ (Llet ++ (catTo eqT n.eqs n.eqs.length ++ Ltel)))
def prT (ns : List DNode) : ByteArray:=catTo ndT ns ns.length
theorem lits_size2 : Lcomma.size = 2 ∧ Lsemi.size = 2 ∧ Lind.size ≤ 12 ∧ Leq.size ≤ 12 ∧ Lend.size ≤ 12 ∧ Lnode.size ≤ 12 ∧ Lret.size ≤ 12 ∧ Lcln.size ≤ 12 ∧ Lvar.size ≤ 12 ∧ Llet.size ≤ 12 ∧ Ltel.size ≤ 12:=by decide
theorem eq_iff (e : DEq) : eqB e = true ↔ (1 ≤ e.lhs.length ∧ e.lhs.length ≤ 500 ∧ e.args.length ≤ 500) ∧ e.lhs.all nameB = true ∧ (if e.call.size = 0 then decide (e.lhs.length = 1 ∧ e.args.length = 0) && cdB e.code else nameB e.call && decide (e.code.length = 0) && e.args.all cdB) = true:=by
 simp only [eqB,Bool.and_eq_true,decide_eq_true_iff,and_assoc]
theorem eq_code {e : DEq} (h : eqB e = true) (h0 : e.call.size = 0) : cdB e.code = true:=by
 have:=((eq_iff e).1 h).2.2
 rw [if_pos h0,Bool.and_eq_true] at this
 exact this.2
theorem eq_call {e : DEq} (h : eqB e = true) (h0 : ¬ e.call.size = 0) : nameB e.call = true ∧ (∀ a,a ∈ e.args → cdB a = true):=by
 have:=((eq_iff e).1 h).2.2
 rw [if_neg h0,Bool.and_eq_true,Bool.and_eq_true,List.all_eq_true] at this
 exact ⟨this.1.1,this.2⟩
theorem lhs_size {e : DEq} (h : eqB e = true) : (jnT Lcomma e.lhs).size ≤ 21000:=by
 have h1:=(eq_iff e).1 h
 have h2:=jnT_size Lcomma e.lhs 40 (fun x hx => name_size x (List.all_eq_true.1 h1.2.1 x hx))
 rw [lits_size2.1] at h2
 omega
theorem args_size {e : DEq} (h : eqB e = true) (h0 : ¬ e.call.size = 0) : (jnT Lcomma (e.args.map cdT)).size ≤ 150001000:=by
 have h1:=(eq_iff e).1 h
 have h2:=jnT_size Lcomma (e.args.map cdT) 300000 (fun x hx => by
  obtain ⟨a,ha,rfl⟩:=List.mem_map.1 hx
  exact cdT_size ((eq_call h h0).2 a ha))
 rw [lits_size2.1,List.length_map] at h2
 omega
theorem rhT_size {e : DEq} (h : eqB e = true) : (rhT e).size ≤ 150002000:=by
 unfold rhT
 split
 ·rename_i h0
  have:=cdT_size (eq_code h h0)
  omega
 ·rename_i h0
  have h1:=name_size _ (eq_call h h0).1
  have h2:=args_size h h0
  have z1 : Lop.size = 1:=rfl
  have z2 : Lcl.size = 1:=rfl
  simp only [ba_size]
  omega
theorem eqT_size {e : DEq} (h : eqB e = true) : (eqT e).size ≤ 160000000:=by
 have h1:=lhs_size h
 have h2:=rhT_size h
 obtain ⟨_,_,z1,z2,z3,_⟩:=lits_size2
 unfold eqT
 simp only [ba_size]
 omega
theorem node_vars {n : DNode} (h : nodeB n = true) : (∀ v,v ∈ n.ins → varB v = true) ∧ (∀ v,v ∈ n.outs → varB v = true) ∧ (∀ v,v ∈ n.vars → varB v = true):=by
 obtain ⟨_,_,h1,h2,h3,_⟩:=(node_iff n).1 h
 have hp : ∀ v,portB v = true → varB v = true:=fun v hv => by simp only [portB,Bool.and_eq_true] at hv; exact hv.2
 exact ⟨fun v hv => hp v (List.all_eq_true.1 h1 v hv),fun v hv => hp v (List.all_eq_true.1 h2 v hv),fun v hv => List.all_eq_true.1 h3 v hv⟩
theorem node_eqs {n : DNode} (h : nodeB n = true) : ∀ e,e ∈ n.eqs → eqB e = true:=fun e he => List.all_eq_true.1 ((node_iff n).1 h).2.2.2.2.2 e he
theorem hdT_size {n : DNode} (h : nodeB n = true) : (hdT n).size ≤ 600000:=by
 obtain ⟨v1,v2,v3⟩:=node_vars h
 have h0:=(node_iff n).1 h
 have d1:=dls_size n.ins v1 (by omega)
 have d2:=dls_size n.outs v2 (by omega)
 have d4:=name_size _ h0.2.1
 obtain ⟨_,_,z1,z2,z3,z4,z5,z6,z7,z8,z9⟩:=lits_size2
 have z10 : Lop.size = 1:=rfl
 unfold hdT
 simp only [ba_size]
 omega
theorem vrT_size {n : DNode} (h : nodeB n = true) : (vrT n).size ≤ 300000:=by
 obtain ⟨v1,v2,v3⟩:=node_vars h
 have h0:=(node_iff n).1 h
 have d3:=dls_size n.vars v3 (by omega)
 obtain ⟨_,_,z1,z2,z3,z4,z5,z6,z7,z8,z9⟩:=lits_size2
 unfold vrT
 split
 ·simp
 ·simp only [ba_size]
  omega
theorem eqs_size {n : DNode} (h : nodeB n = true) (k : Nat) (hk : k ≤ n.eqs.length) : (catTo eqT n.eqs k).size ≤ 80000000000:=by
 have h0:=(node_iff n).1 h
 have:=catTo_size eqT n.eqs 160000000 (fun e he => eqT_size (node_eqs h e he)) k hk
 omega
theorem ndT_size {n : DNode} (h : nodeB n = true) : (ndT n).size ≤ 100000000000:=by
 have d1:=hdT_size h
 have d2:=vrT_size h
 have d3:=eqs_size h _ (Nat.le_refl _)
 obtain ⟨_,_,z1,z2,z3,z4,z5,z6,z7,z8,z9⟩:=lits_size2
 unfold ndT
 simp only [ba_size]
 omega
theorem prT_size {ns : List DNode} (h : shapeB ns = true) (k : Nat) (hk : k ≤ ns.length) : (catTo ndT ns k).size ≤ 20000000000000:=by
 simp only [shapeB,Bool.and_eq_true,decide_eq_true_iff,List.all_eq_true] at h
 have:=catTo_size ndT ns 100000000000 (fun n hn => ndT_size (h.2 n hn)) k hk
 omega
theorem byt_left {a b : ByteArray} {i : Nat} (h : i < a.size) : byt (a ++ b) i = byt a i:=by
 have h2 : i < (a ++ b).size:=by rw [ba_size]; omega
 rw [byt_lt h2,byt_lt h]
 simp only [ByteArray.getElem_eq_getElem_data,ByteArray.data_append]
 rw [Array.getElem_append_left]
theorem byt_right {a b : ByteArray} (i : Nat) : byt (a ++ b) (a.size + i) = byt b i:=by
 by_cases h : i < b.size
 ·have h2 : a.size + i < (a ++ b).size:=by rw [ba_size]; omega
  rw [byt_lt h2,byt_lt h]
  simp only [ByteArray.getElem_eq_getElem_data,ByteArray.data_append]
  rw [Array.getElem_append_right (by show a.size ≤ _; omega)]
  have e : a.size + i - a.data.size = i:=by show a.size + i - a.size = i; omega
  simp only [e]
 ·have h2 : ¬ a.size + i < (a ++ b).size:=by rw [ba_size]; omega
  simp [byt,h,h2]
theorem ext_mid (a t b : ByteArray) : (a ++ (t ++ b)).extract a.size (a.size + t.size) = t:=by
 apply ByteArray.ext
 rw [ByteArray.data_extract,ByteArray.data_append,ByteArray.data_append]
 apply Array.ext'
 simp only [Array.toList_extract,Array.toList_append,List.extract]
 have e1 : a.size = a.data.toList.length:=(Array.length_toList ..).symm
 have e2 : t.size = t.data.toList.length:=(Array.length_toList ..).symm
 rw [e1,List.drop_left,e2,show a.data.toList.length + t.data.toList.length - a.data.toList.length = t.data.toList.length by omega,List.take_left]
structure Pc where
 kind : Nat
 text : ByteArray
 val : Int
def fx (s : ByteArray) : Pc:=⟨3,s,0⟩
def nmP (s : ByteArray) : Pc:=⟨1,s,0⟩
def nuP (n : Int) : Pc:=⟨2,dcT n,n⟩
def spP : Pc:=⟨0,⟨#[32]⟩,0⟩
def nlP : Pc:=⟨0,⟨#[10]⟩,0⟩
def flP : List Pc → ByteArray
 | [] => ByteArray.empty
 | p :: r => p.text ++ flP r
theorem flP_app (a b : List Pc) : flP (a ++ b) = flP a ++ flP b:=by
 induction a with
 | nil => rw [List.nil_append,flP,ba_nil']
 | cons x r ih => rw [List.cons_append,flP,flP,ih,ba_assoc]
def tkP (ps : List Pc) : List Pc:=ps.filter (fun p => p.kind != 0)
theorem tkP_app (a b : List Pc) : tkP (a ++ b) = tkP a ++ tkP b:=List.filter_append ..
theorem tkP_sp (r : List Pc) : tkP (spP :: r) = tkP r:=rfl
theorem tkP_nl (r : List Pc) : tkP (nlP :: r) = tkP r:=rfl
theorem tkP_fx (s : ByteArray) (r : List Pc) : tkP (fx s :: r) = fx s :: tkP r:=rfl
theorem tkP_nm (s : ByteArray) (r : List Pc) : tkP (nmP s :: r) = nmP s :: tkP r:=rfl
def symB (s : ByteArray) : Bool:=[[40],[41],[58],[59],[44],[61],[60,62],[60],[60,61],[62],[62,61],[43],[45],[42],[47]].any (fun x => s.data.toList == x)
def wfP (p : Pc) : Prop:=(p.kind = 0 ∧ p.val = 0 ∧ (p.text = ⟨#[32]⟩ ∨ p.text = ⟨#[10]⟩)) ∨ (p.kind = 1 ∧ p.val = 0 ∧ plainB p.text = true) ∨ (p.kind = 2 ∧ 0 ≤ p.val ∧ p.val ≤ 2147483647 ∧ p.text = dcT p.val) ∨ (p.kind = 3 ∧ p.val = 0 ∧ (kwB p.text || symB p.text) = true)
def okN (k : Nat) (t : ByteArray) (nx : Int) : Bool:=k == 0 || (if wordB (byt t 0) then !wordB nx else !(byt t 0 == 45 && nx == 45) && !(t.size == 1 && byt t 0 == 60 && (nx == 61 || nx == 62)) && !(t.size == 1 && byt t 0 == 62 && nx == 61))
def hdB : List Pc → Int → Int
 | [],nx => nx
 | p :: _,_ => byt p.text 0
def gdP : List Pc → Int → Prop
 | [],_ => True
 | p :: r,nx => wfP p ∧ okN p.kind p.text (hdB r nx) = true ∧ gdP r nx
theorem hdB_app (a b : List Pc) (nx : Int) : hdB (a ++ b) nx = hdB a (hdB b nx):=by
 cases a <;> rfl
theorem gdP_app (a b : List Pc) (nx : Int) : gdP (a ++ b) nx ↔ gdP a (hdB b nx) ∧ gdP b nx:=by
 induction a with
 | nil => simp [gdP]
 | cons x r ih =>
  rw [List.cons_append]
  simp only [gdP]
  rw [ih,hdB_app]
  constructor
  ·rintro ⟨h1,h2,h3,h4⟩; exact ⟨⟨h1,h2,h3⟩,h4⟩
  ·rintro ⟨⟨h1,h2,h3⟩,h4⟩; exact ⟨h1,h2,h3,h4⟩
theorem gdP_wf {ps : List Pc} {nx : Int} (h : gdP ps nx) : ∀ p ∈ ps,wfP p:=by
 induction ps with
 | nil => intro p hp; cases hp
 | cons x r ih =>
  intro p hp
  rcases List.mem_cons.1 hp with rfl | hp
  ·exact h.1
  ·exact ih h.2.2 p hp
theorem plain_parts {s : ByteArray} (h : plainB s = true) : (1 ≤ s.size ∧ s.size ≤ 40) ∧ letB (byt s 0) = true ∧ kwB s = false ∧ ∀ j,j < s.size → wordB (byt s j) = true:=by
 simp only [plainB,Bool.and_eq_true,decide_eq_true_iff,Bool.not_eq_true',allB] at h
 exact ⟨h.1.1.1,h.1.1.2,h.1.2,fun j hj => h.2 j hj (Nat.zero_le _)⟩
theorem let_word {c : Int} (h : letB c = true) : wordB c = true:=by simp [wordB,h]
theorem dig_word {c : Int} (h : digB c = true) : wordB c = true:=by simp [wordB,h]
theorem plain_name {s : ByteArray} (h : plainB s = true) : nameB s = true:=by simp [nameB,h]
def numTo (s : ByteArray) : Nat → Int
 | 0 => 0
 | k + 1 => numTo s k * 10 + (byt s k - 48)
theorem numTo_left (a b : ByteArray) : ∀ k,k ≤ a.size → numTo (a ++ b) k = numTo a k
 | 0,_ => rfl
 | k + 1,h => by rw [numTo,numTo,numTo_left a b k (by omega),byt_left (by omega)]
theorem dec_digs (u : Nat) : ∀ b ∈ Lib.decDigits u,48 ≤ b.toNat ∧ b.toNat ≤ 57:=by
 induction u using Nat.strongRecOn with
 | _ u ih =>
  intro b hb
  rw [Lib.decDigits] at hb
  split at hb
  ·rw [List.mem_singleton] at hb
   subst hb
   have : u < 10:=by assumption
   have e : (UInt8.ofNat (48 + u)).toNat = 48 + u:=by simp; omega
   omega
  ·rcases List.mem_append.1 hb with hb | hb
   ·exact ih (u / 10) (by omega) b hb
   ·rw [List.mem_singleton] at hb
    subst hb
    have e : (UInt8.ofNat (48 + u % 10)).toNat = 48 + u % 10:=by simp; omega
    omega
def dcN (u : Nat) : ByteArray:=⟨(Lib.decDigits u).toArray⟩
theorem dcN_size (u : Nat) : (dcN u).size = (Lib.decDigits u).length:=by simp [dcN,ByteArray.size]
theorem dcT_nat (u : Nat) : dcT (u : Int) = dcN u:=by
 unfold dcT dcN Lib.itoa
 rw [if_neg (by omega)]
 simp
theorem dcN_dig (u j : Nat) (h : j < (dcN u).size) : digB (byt (dcN u) j) = true:=by
 rw [byt_lt h]
 have e : (dcN u)[j] = (Lib.decDigits u)[j]'(by rw [← dcN_size]; exact h):=by simp [dcN,ByteArray.getElem_eq_getElem_data]
 rw [e]
 have:=dec_digs u _ (List.getElem_mem (by rw [← dcN_size]; exact h))
 simp [digB]
 omega
theorem dcN_step (u : Nat) (h : ¬ u < 10) : dcN u = dcN (u / 10) ++ ⟨#[UInt8.ofNat (48 + u % 10)]⟩:=by
 apply ByteArray.ext
 rw [ByteArray.data_append]
 apply Array.ext'
 simp only [dcN,Array.toList_append]
 rw [Lib.decDigits,dif_neg h]
theorem dcN_pos (u : Nat) : 1 ≤ (dcN u).size:=by
 by_cases h : u < 10
 ·rw [dcN_size,Lib.decDigits,dif_pos h]
  simp
 ·rw [dcN_step u h,ba_size]
  show 1 ≤ _ + 1
  omega
theorem dcN_num (u : Nat) : numTo (dcN u) (dcN u).size = u:=by
 induction u using Nat.strongRecOn with
 | _ u ih =>
  by_cases h : u < 10
  ·have e : dcN u = ⟨#[UInt8.ofNat (48 + u)]⟩:=by
    apply ByteArray.ext
    apply Array.ext'
    simp only [dcN]
    rw [Lib.decDigits,dif_pos h]
   rw [e]
   show numTo _ 1 = _
   have e2 : byt (⟨#[UInt8.ofNat (48 + u)]⟩ : ByteArray) 0 = ((48 + u : Nat) : Int):=by
    rw [byt_lt (show 0 < 1 by omega)]
    show ((UInt8.ofNat (48 + u)).toNat : Int) = _
    have : (UInt8.ofNat (48 + u)).toNat = 48 + u:=by simp; omega
    rw [this]
   rw [numTo,numTo,e2]
   omega
  ·have e:=dcN_step u h
   have e3 : (⟨#[UInt8.ofNat (48 + u % 10)]⟩ : ByteArray).size = 1:=rfl
   rw [e,ba_size,e3,numTo,numTo_left _ _ _ (Nat.le_refl _),ih (u / 10) (by omega)]
   have e2 : byt (dcN (u / 10) ++ ⟨#[UInt8.ofNat (48 + u % 10)]⟩) (dcN (u / 10)).size = ((48 + u % 10 : Nat) : Int):=by
    have:=byt_right (a:=dcN (u / 10)) (b:=⟨#[UInt8.ofNat (48 + u % 10)]⟩) 0
    rw [Nat.add_zero] at this
    rw [this,byt_lt (show 0 < 1 by omega)]
    show ((UInt8.ofNat (48 + u % 10)).toNat : Int) = _
    have : (UInt8.ofNat (48 + u % 10)).toNat = 48 + u % 10:=by simp; omega
    rw [this]
   rw [e2]
   omega
theorem numTo_pos (s : ByteArray) (hd : ∀ j,j < s.size → digB (byt s j) = true) : ∀ k,k ≤ s.size → 0 ≤ numTo s k
 | 0,_ => by simp [numTo]
 | k + 1,h => by
  have h1:=numTo_pos s hd k (by omega)
  have h2:=hd k (by omega)
  simp [digB] at h2
  simp only [numTo]
  omega
theorem numTo_le (s : ByteArray) (hd : ∀ j,j < s.size → digB (byt s j) = true) (n : Nat) : ∀ k,k + n = s.size → numTo s k ≤ numTo s s.size:=by
 induction n with
 | zero => intro k h; rw [Nat.add_zero] at h; rw [h]; exact Int.le_refl _
 | succ n ih =>
  intro k h
  have h1:=ih (k + 1) (by omega)
  have h2:=hd k (by omega)
  have h3:=numTo_pos s hd k (by omega)
  simp [digB] at h2
  simp only [numTo] at h1
  omega
theorem dcT_neg (u : Nat) (h : 1 ≤ u) : dcT (-(u : Int)) = (⟨#[45]⟩ : ByteArray) ++ dcN u:=by
 apply ByteArray.ext
 rw [ByteArray.data_append]
 apply Array.ext'
 unfold dcT dcN Lib.itoa
 rw [if_pos (by omega)]
 simp
def Kop : ByteArray:=⟨#[40]⟩
def Kcl : ByteArray:=⟨#[41]⟩
def Kmin : ByteArray:=⟨#[45]⟩
def Knot : ByteArray:=⟨#[110,111,116]⟩
def Kif : ByteArray:=⟨#[105,102]⟩
def Kthen : ByteArray:=⟨#[116,104,101,110]⟩
def Kelse : ByteArray:=⟨#[101,108,115,101]⟩
def Kfby : ByteArray:=⟨#[102,98,121]⟩
def Kmerge : ByteArray:=⟨#[109,101,114,103,101]⟩
def Kwhen : ByteArray:=⟨#[119,104,101,110]⟩
def Kwhenot : ByteArray:=⟨#[119,104,101,110,111,116]⟩
def Kcol : ByteArray:=⟨#[58]⟩
def Ksem : ByteArray:=⟨#[59]⟩
def Kcom : ByteArray:=⟨#[44]⟩
def Keq : ByteArray:=⟨#[61]⟩
def Kint : ByteArray:=⟨#[105,110,116]⟩
def Kbool : ByteArray:=⟨#[98,111,111,108]⟩
def Knode : ByteArray:=⟨#[110,111,100,101]⟩
def Kret : ByteArray:=⟨#[114,101,116,117,114,110,115]⟩
def Kvar : ByteArray:=⟨#[118,97,114]⟩
def Klet : ByteArray:=⟨#[108,101,116]⟩
def Ktel : ByteArray:=⟨#[116,101,108]⟩
theorem wKop : (kwB Kop || symB Kop) = true:=by unfold kwB; simp only [ByteArray.toList_eq]; decide
theorem wKcl : (kwB Kcl || symB Kcl) = true:=by unfold kwB; simp only [ByteArray.toList_eq]; decide
theorem wKmin : (kwB Kmin || symB Kmin) = true:=by unfold kwB; simp only [ByteArray.toList_eq]; decide
theorem wKnot : (kwB Knot || symB Knot) = true:=by unfold kwB; simp only [ByteArray.toList_eq]; decide
theorem wKif : (kwB Kif || symB Kif) = true:=by unfold kwB; simp only [ByteArray.toList_eq]; decide
theorem wKthen : (kwB Kthen || symB Kthen) = true:=by unfold kwB; simp only [ByteArray.toList_eq]; decide
theorem wKelse : (kwB Kelse || symB Kelse) = true:=by unfold kwB; simp only [ByteArray.toList_eq]; decide
theorem wKfby : (kwB Kfby || symB Kfby) = true:=by unfold kwB; simp only [ByteArray.toList_eq]; decide
theorem wKmerge : (kwB Kmerge || symB Kmerge) = true:=by unfold kwB; simp only [ByteArray.toList_eq]; decide
theorem wKcol : (kwB Kcol || symB Kcol) = true:=by unfold kwB; simp only [ByteArray.toList_eq]; decide
theorem wKsem : (kwB Ksem || symB Ksem) = true:=by unfold kwB; simp only [ByteArray.toList_eq]; decide
theorem wKcom : (kwB Kcom || symB Kcom) = true:=by unfold kwB; simp only [ByteArray.toList_eq]; decide
theorem wKeq : (kwB Keq || symB Keq) = true:=by unfold kwB; simp only [ByteArray.toList_eq]; decide
theorem wKint : (kwB Kint || symB Kint) = true:=by unfold kwB; simp only [ByteArray.toList_eq]; decide
theorem wKbool : (kwB Kbool || symB Kbool) = true:=by unfold kwB; simp only [ByteArray.toList_eq]; decide
theorem wKnode : (kwB Knode || symB Knode) = true:=by unfold kwB; simp only [ByteArray.toList_eq]; decide
theorem wKret : (kwB Kret || symB Kret) = true:=by unfold kwB; simp only [ByteArray.toList_eq]; decide
theorem wKvar : (kwB Kvar || symB Kvar) = true:=by unfold kwB; simp only [ByteArray.toList_eq]; decide
theorem wKlet : (kwB Klet || symB Klet) = true:=by unfold kwB; simp only [ByteArray.toList_eq]; decide
theorem wKtel : (kwB Ktel || symB Ktel) = true:=by unfold kwB; simp only [ByteArray.toList_eq]; decide
def nvP (v : Int) : List Pc:=if v < 0 then [fx Kmin,nuP (-v)] else [nuP v]
def tvP (v : Int) : Pc:=fx (flT v)
def cwP (on : Bool) : Pc:=fx (if on = true then Kwhen else Kwhenot)
def psT (t : DItem) : List (List Pc) :=
 if t.op = 1 then [[nuP t.val]] else if t.op = 2 then [[tvP t.val]] else if t.op = 3 then [[nmP t.name]] else if t.op = 4 then [[fx Kop,fx Kmin,spP],[fx Kcl]] else if t.op = 5 then [[fx Kop,fx Knot,spP],[fx Kcl]]
 else if t.op = 20 then [[fx Kop,fx Kif,spP],[spP,fx Kthen,spP],[spP,fx Kelse,spP],[fx Kcl]] else if t.op = 21 then [fx Kop :: (nvP t.val ++ [spP,fx Kfby,spP]),[fx Kcl]] else if t.op = 22 then [[fx Kop,tvP t.val,spP,fx Kfby,spP],[fx Kcl]]
 else if t.op = 23 then [[fx Kop],[spP,cwP (decide (t.val = 1)),spP,nmP t.name,fx Kcl]] else if t.op = 24 then [[fx Kop,fx Kmerge,spP,nmP t.name,spP],[spP],[fx Kcl]] else [[fx Kop],[spP,fx (sgT t.op),spP],[fx Kcl]]
def wvP : List (List Pc) → List (List Pc) → List Pc
 | [],_ => []
 | t :: _,[] => t
 | t :: ts,u :: us => t ++ (u ++ wvP ts us)
theorem wvP_fl : ∀ a b,flP (wvP a b) = weave (a.map flP) (b.map flP)
 | [],_ => rfl
 | t :: _,[] => rfl
 | t :: ts,u :: us => by rw [wvP,flP_app,flP_app,wvP_fl ts us]; rfl
theorem fl1 (p : Pc) : flP [p] = p.text:=by rw [flP,flP,ba_nil]
theorem nvP_fl (v : Int) : flP (nvP v) = dcT v:=by
 unfold nvP
 split
 ·rename_i h
  obtain ⟨u,rfl⟩ : ∃ u : Nat,v = -(u : Int):=⟨v.natAbs,by omega⟩
  rw [dcT_neg u (by omega),flP,fl1]
  show Kmin ++ dcT (- -(u : Int)) = _
  rw [Int.neg_neg,dcT_nat]
  rfl
 ·exact fl1 _
theorem psT_fl (t : DItem) : (psT t).map flP = tsT t:=by
 unfold psT tsT
 by_cases h1 : t.op = 1
 ·simp only [h1,if_true,List.map_cons,List.map_nil,fl1]; rfl
 by_cases h2 : t.op = 2
 ·simp only [if_neg h1,if_pos h2,List.map_cons,List.map_nil,fl1]; rfl
 by_cases h3 : t.op = 3
 ·simp only [if_neg h1,if_neg h2,if_pos h3,List.map_cons,List.map_nil,fl1]; rfl
 by_cases h4 : t.op = 4
 ·simp only [if_neg h1,if_neg h2,if_neg h3,if_pos h4,List.map_cons,List.map_nil,fl1]; rfl
 by_cases h5 : t.op = 5
 ·simp only [if_neg h1,if_neg h2,if_neg h3,if_neg h4,if_pos h5,List.map_cons,List.map_nil,fl1]; rfl
 by_cases h20 : t.op = 20
 ·simp only [if_neg h1,if_neg h2,if_neg h3,if_neg h4,if_neg h5,if_pos h20,List.map_cons,List.map_nil,fl1]; rfl
 by_cases h21 : t.op = 21
 ·simp only [if_neg h1,if_neg h2,if_neg h3,if_neg h4,if_neg h5,if_neg h20,if_pos h21,List.map_cons,List.map_nil,fl1]
  rw [flP,flP_app,nvP_fl]
  show [Lop ++ (dcT t.val ++ Lfby),Lcl] = _
  rw [ba_assoc]
 by_cases h22 : t.op = 22
 ·simp only [if_neg h1,if_neg h2,if_neg h3,if_neg h4,if_neg h5,if_neg h20,if_neg h21,if_pos h22,List.map_cons,List.map_nil,fl1]
  show [Lop ++ (flT t.val ++ Lfby),Lcl] = _
  rw [ba_assoc]
 by_cases h23 : t.op = 23
 ·simp only [if_neg h1,if_neg h2,if_neg h3,if_neg h4,if_neg h5,if_neg h20,if_neg h21,if_neg h22,if_pos h23,List.map_cons,List.map_nil,fl1]
  simp only [flP,ba_nil,spP,nmP,cwP,fx]
  congr 2
  unfold cnT
  by_cases hv : t.val = 1
  ·simp only [hv,decide_true,if_true]
   rw [← ba_assoc,← ba_assoc,← ba_assoc]
   rfl
  ·simp only [hv,decide_false,Bool.false_eq_true,if_false]
   rw [← ba_assoc,← ba_assoc,← ba_assoc]
   rfl
 by_cases h24 : t.op = 24
 ·simp only [if_neg h1,if_neg h2,if_neg h3,if_neg h4,if_neg h5,if_neg h20,if_neg h21,if_neg h22,if_neg h23,if_pos h24,List.map_cons,List.map_nil,fl1]
  show [Kop ++ (Kmerge ++ (Lsp ++ (t.name ++ (Lsp ++ ByteArray.empty)))),_,_] = _
  rw [ba_nil,← ba_assoc,← ba_assoc,← ba_assoc]
  rfl
 simp only [if_neg h1,if_neg h2,if_neg h3,if_neg h4,if_neg h5,if_neg h20,if_neg h21,if_neg h22,if_neg h23,if_neg h24,List.map_cons,List.map_nil,fl1]
 show [_,Lsp ++ (sgT t.op ++ (Lsp ++ ByteArray.empty)),_] = _
 rw [ba_nil,← ba_assoc]
 rfl
def itP (t : DItem) : Prop:=itB t = true ∧ (t.op = 3 ∨ t.op = 23 ∨ t.op = 24 → plainB t.name = true)
abbrev CP:=List DItem × List Pc
def Ex (c : List DItem) (ps : List Pc) : Prop:=∀ P : List DItem → List Pc → Prop,(∀ (t : DItem) (l : List CP),itP t → l.length = arN t.op → (∀ x ∈ l,P x.1 x.2) → P (l.flatMap (·.1) ++ [t]) (wvP (psT t) (l.map (·.2)))) → P c ps
theorem Ex.mk {t : DItem} {l : List CP} (ht : itP t) (hl : l.length = arN t.op) (h : ∀ x ∈ l,Ex x.1 x.2) : Ex (l.flatMap (·.1) ++ [t]) (wvP (psT t) (l.map (·.2))):=fun P hP => hP t l ht hl (fun x hx => h x hx P hP)
theorem Ex.ind {motive : List DItem → List Pc → Prop} {c : List DItem} {ps : List Pc} (h : Ex c ps) (step : ∀ (t : DItem) (l : List CP),itP t → l.length = arN t.op → (∀ x ∈ l,Ex x.1 x.2) → (∀ x ∈ l,motive x.1 x.2) → motive (l.flatMap (·.1) ++ [t]) (wvP (psT t) (l.map (·.2)))) : motive c ps :=
 (h (fun c ps => Ex c ps ∧ motive c ps) (fun t l ht hl hx => ⟨Ex.mk ht hl (fun x h => (hx x h).1),step t l ht hl (fun x h => (hx x h).1) (fun x h => (hx x h).2)⟩)).2
theorem itP_op {t : DItem} (h : itP t) : 1 ≤ t.op ∧ t.op ≤ 24:=((it_iff t).1 h.1).1
theorem wk_args (l : List CP) (h : ∀ x ∈ l,∀ rest (r : Int),0 ≤ r → wk (x.1 ++ rest) r = wk rest (r + 1)) : ∀ rest (r : Int),0 ≤ r → wk (l.flatMap (·.1) ++ rest) r = wk rest (r + l.length):=by
 induction l with
 | nil => intro rest r hr; simp
 | cons x l ih =>
  intro rest r hr
  rw [List.flatMap_cons,List.append_assoc,h x (List.mem_cons_self ..) _ r hr,ih (fun y hy => h y (List.mem_cons_of_mem _ hy)) rest (r + 1) (by omega),List.length_cons]
  congr 1
  omega
theorem Ex.wk {c : List DItem} {ps : List Pc} (h : Ex c ps) : ∀ rest (r : Int),0 ≤ r → wk (c ++ rest) r = wk rest (r + 1):=by
 refine Ex.ind (motive:=fun c ps => ∀ rest (r : Int),0 ≤ r → Go.Proofs.YtajabbnlbopcbaaGreatDoor.wk (c ++ rest) r = Go.Proofs.YtajabbnlbopcbaaGreatDoor.wk rest (r + 1)) h ?_
 intro t l ht hl _ ih rest r hr
 rw [List.append_assoc,wk_args l ih _ r hr]
 show Go.Proofs.YtajabbnlbopcbaaGreatDoor.wk (t :: rest) _ = _
 simp only [Go.Proofs.YtajabbnlbopcbaaGreatDoor.wk]
 have hbd:=ocI_bd t.op
 have har : ((arN t.op : Nat) : Int) = ocI t.op:=by unfold arN; omega
 rw [if_neg (by omega)]
 congr 1
 omega
theorem Ex.items {c : List DItem} {ps : List Pc} (h : Ex c ps) : ∀ t ∈ c,itP t:=by
 refine Ex.ind (motive:=fun c ps => ∀ t ∈ c,itP t) h ?_
 intro t l ht hl _ ih x hx
 rcases List.mem_append.1 hx with hx | hx
 ·obtain ⟨y,hy,hxy⟩:=List.mem_flatMap.1 hx
  exact ih y hy x hxy
 ·rw [List.mem_singleton] at hx
  rw [hx]
  exact ht
theorem Ex.cd {c : List DItem} {ps : List Pc} (h : Ex c ps) (hl : c.length ≤ 3000) : cdB c = true:=by
 have h1:=h.wk [] 0 (Int.le_refl _)
 rw [List.append_nil] at h1
 simp only [cdB,Bool.and_eq_true,decide_eq_true_iff,List.all_eq_true]
 exact ⟨⟨hl,fun t ht => (h.items t ht).1⟩,by rw [h1]; simp [Go.Proofs.YtajabbnlbopcbaaGreatDoor.wk]⟩
theorem ch_args (l : List CP) (h : ∀ x ∈ l,∀ (pre suf : List DItem) b ss,Ch (pre ++ x.1 ++ suf) b pre.length ss → Ch (pre ++ x.1 ++ suf) b (pre.length + x.1.length) (ss ++ [flP x.2])) : ∀ (pre suf : List DItem) b ss,Ch (pre ++ l.flatMap (·.1) ++ suf) b pre.length ss → Ch (pre ++ l.flatMap (·.1) ++ suf) b (pre.length + (l.flatMap (·.1)).length) (ss ++ l.map (fun x => flP x.2)):=by
 induction l with
 | nil => intro pre suf b ss hc; simpa using hc
 | cons x l ih =>
  intro pre suf b ss hc
  rw [List.flatMap_cons] at hc ⊢
  have h1:=h x (List.mem_cons_self ..) pre (l.flatMap (·.1) ++ suf) b ss (by simpa [List.append_assoc] using hc)
  have h2:=ih (fun y hy => h y (List.mem_cons_of_mem _ hy)) (pre ++ x.1) suf b (ss ++ [flP x.2]) (by simpa [List.append_assoc] using h1)
  simpa [List.append_assoc,Nat.add_assoc] using h2
theorem Ex.ch {c : List DItem} {ps : List Pc} (h : Ex c ps) : ∀ (pre suf : List DItem) b ss,Ch (pre ++ c ++ suf) b pre.length ss → Ch (pre ++ c ++ suf) b (pre.length + c.length) (ss ++ [flP ps]):=by
 refine Ex.ind (motive:=fun c ps => ∀ (pre suf : List DItem) b ss,Ch (pre ++ c ++ suf) b pre.length ss → Ch (pre ++ c ++ suf) b (pre.length + c.length) (ss ++ [flP ps])) h ?_
 intro t l ht hl _ ih pre suf b ss hc
 have e : pre ++ (l.flatMap (·.1) ++ [t]) ++ suf = pre ++ l.flatMap (·.1) ++ ([t] ++ suf):=by simp
 rw [e] at hc ⊢
 have h2:=ch_args l ih pre ([t] ++ suf) pre.length [] (Ch.nil _)
 rw [List.nil_append] at h2
 have hlt : pre.length + (l.flatMap (·.1)).length < (pre ++ l.flatMap (·.1) ++ ([t] ++ suf)).length:=by simp
 have hg : (pre ++ l.flatMap (·.1) ++ ([t] ++ suf))[pre.length + (l.flatMap (·.1)).length] = t:=by
  rw [List.getElem_append_right (by simp)]
  simp
 have h3:=Ch.snoc hlt hc h2 (by rw [hg,List.length_map,hl])
 rw [hg] at h3
 rw [wvP_fl,psT_fl,List.map_map,List.length_append]
 exact h3
theorem Ex.text {c : List DItem} {ps : List Pc} (h : Ex c ps) : cdT c = flP ps:=by
 have h1:=h.ch [] [] 0 [] (Ch.nil _)
 simp only [List.nil_append,List.append_nil,List.length_nil,Nat.zero_add] at h1
 exact opT_ch h1
end Go.Proofs.YtajabbnlbopcbaaGreatDoor
