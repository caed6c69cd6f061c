import Derived.Test.YtfioeoihociilaaGreatCS19
import Derived.Test.YtfioeoihociilaaGreatC6
namespace Go.Proofs.YtfioeoihociilaaGreat
open Go.RowKit
set_option linter.unusedSimpArgs false
set_option linter.unusedVariables false
def elCtx : ElF Tryz.prog Nat where
 T:=88
 ST:=175
 sz:=1
 byt:=8
 f:=fun t => [.pointer (some ⟨t,0,none⟩)]
 z:=.pointer none
 hT:=Tryz.underlying175
 hi:=by kernel_rfl
 hz:=rfl
 hf:=fun _ => rfl
 h1:=fun c u hu => by
  simp only [List.mem_cons,List.not_mem_nil,or_false] at hu
  rcases hu with rfl
  rfl
 hsz:=by decide
 hby:=by decide
theorem flat_ptrC (D : List Nat) : D.flatMap elCtx.f = D.map ptrN:=by
 show D.flatMap (fun t => [ptrN t]) = _
 induction D with
 | nil => rfl
 | cons a r ih => rw [List.flatMap_cons,List.map_cons,ih]; rfl
theorem OwnV.cellC {w : World} {base : Nat} {v : Value} {D : List Nat} (h : OwnV elCtx w base v D) {g c n : Nat} (hv : v = .slice (some ⟨g,0,none⟩) n c) (p : Nat) (hp : p < D.length) : w.cell? ⟨g,p,none⟩ = some (ptrN D[p]):=by
 have h':=World.ownsRow.cells h (g:=g) (by rw [hv]; rfl) p (ptrN D[p]) (by
  rw [flat_ptrC]
  rw [List.getElem?_map,List.getElem?_eq_getElem hp]
  rfl)
 rw [Addr.add_lit,Nat.zero_add] at h'
 exact h'
theorem OwnV.cellsOf {P : Program} {α : Type} {E : ElF P α} {w : World} {base : Nat} {v : Value} {xs : List α} (h : OwnV E w base v xs) {g : Nat} (hg : v.ownBlock = some g) : ∃ cur,w.heap[g]? = some (.cells cur E.T (0,0)):=by
 obtain ⟨h1,h2⟩:=h
 rcases h2 with ⟨h3,h4⟩ | ⟨g1,cap,cur,h3,h4,h5,_⟩
 ·rw [h3] at hg; cases hg
 ·rw [h3] at hg
  cases hg
  exact ⟨cur,h5⟩
theorem Sc.row {W w w' : World} {nv fz : Value} {vs : List DVar} {G : List Int} {sb vb : Nat} {ov : Value} {D : List Nat} {C L : List DCond → Option Nat} {N : Nat} (h : Sc W w nv fz vs G sb vb ov D C L N) {g : Nat} {T : TypeId} {cs : Array Value} (hg : w.heap[g]? = some (.cells cs T (0,0))) (h1 : T ≠ 91) (h2 : T ≠ 87) (h3 : T ≠ 122) (h4 : T ≠ 118) (hlo : W.heap.size ≤ g) (hgr : w.grownBy w' (some g)) : Sc W w' nv fz vs G sb vb ov D C L N:=by
 have hgb : BlkAt w g T cs:=hg
 have same : ∀ b,b < w.heap.size → b ≠ g → w'.heap[b]? = w.heap[b]?:=fun b hb hne => hgr.block b hb (fun e => hne (Option.some.inj e))
 have nmap : ∀ {b : Nat} {es : Array MapEntry} {ck : Nat},w.heap[b]? = some (.map es ck) → b ≠ g:=fun {b es ck} hb e => by
  rw [e] at hb
  have h9:=hb.symm.trans hg
  cases h9
 have sblk : ∀ {b : Nat} {U : TypeId} {ds : Array Value},BlkAt w b U ds → T ≠ U → BlkAt w' b U ds:=fun {b U ds} hb hne => (same b hb.lt (fun e => by
  rw [e] at hb
  have h9:=hb.symm.trans hgb
  simp only [Option.some.injEq,Obj.cells.injEq] at h9
  exact hne h9.2.1.symm)).trans hb
 refine ⟨⟨hgr.os.trans h.old.os,hgr.tape.trans h.old.tape,hgr.output.trans h.old.output,Nat.le_trans h.old.size hgr.size,fun k hk => (same k (Nat.lt_of_lt_of_le hk h.old.size) (by omega)).trans (h.old.block k hk)⟩,h.trie.same hgr.size (fun ks b hk => (sblk (h.trie.blk ks b hk).1 h1).trans (h.trie.blk ks b hk).1.symm) (fun ks M hk => ?_),sblk h.sblk h2,h.ord.ofBlock (fun b hb => same b (h.ord.lt b hb).2 (fun e => OwnV.notBlk' h.ord hgb (fun e9 => h4 e9.symm) (e ▸ hb))),h.dlen,fun j hj => ?_,h.inj,h.dlo,?_,h.slo,h.vlo⟩
 ·obtain ⟨D9,⟨es,ck,h5,_⟩,_⟩:=(h.trie.map ks M hk).1
  exact same M (h.trie.map ks M hk).1.lt (nmap h5)
 ·obtain ⟨cv,p,g1,g2,g3⟩:=h.decl j hj
  exact ⟨cv,p,sblk g1 h3,g2,g3⟩
 ·obtain ⟨n,f,g1,g2,g3⟩:=h.vars
  refine ⟨n,f,g1,g2.block ?_,g3⟩
  have hlt:=g2.lt
  obtain ⟨D9,⟨es,ck,g4,_⟩,_⟩:=g2
  exact same vb hlt (nmap g4)
theorem Grow.rowAfter {lo : Nat} {w w1 w2 : World} {C L C' L' : List DCond → Option Nat} (h : Grow lo w C L w1 C' L') {g : Nat} (hg : w1.grownBy w2 (some g)) (hge : w.heap.size ≤ g) (hlo : lo ≤ w.heap.size) : Grow lo w C L w2 C' L':=by
 have same : ∀ x,x < w.heap.size → w2.heap[x]? = w1.heap[x]?:=fun x hx => hg.block x (Nat.lt_of_lt_of_le hx h.keep.size) (fun e => by simp only [Option.some.injEq] at e; omega)
 exact ⟨⟨hg.os.trans h.keep.os,hg.tape.trans h.keep.tape,hg.output.trans h.keep.output,Nat.le_trans h.keep.size hg.size,fun x hx => (same x (by omega)).trans (h.keep.low x hx),fun x hx h1 h2 => (same x hx).trans (h.keep.block x hx h1 h2)⟩,h.c,h.l,h.ln⟩
theorem Grow.rowC {lo : Nat} {w w' : World} {X : Nat → Prop} {C L C' L' : List DCond → Option Nat} {N : Nat} (g : Grow lo w C L w' C' L') (h : Trie w lo X C L N) {base : Nat} {v : Value} {D : List Nat} (ho : OwnV elCtx w base v D) : OwnV elCtx w' base v D:=by
 refine ho.ofBlock (fun b hb => g.keep.block b (ho.lt b hb).2 (fun cs h1 => OwnV.notBlk' ho h1 (by decide) hb) (fun ks e => ?_))
 have h1:=(h.map ks b e).1
 obtain ⟨D9,⟨es,ck,h2,_⟩,_⟩:=h1
 exact ho.notMap hb h2
theorem Fd.app {α : Type} {f : DItem → List α → α} {code : List DItem} {b m e : Nat} {ss us : List α} (h : Fd f code b m ss) (k : Fd f code m e us) : Fd f code b e (ss ++ us):=by
 induction k using Fd.ind with
 | nil b => rw [List.append_nil]; exact h
 | snoc h0 h1 h2 h3 i1 i2 => rw [← List.append_assoc]; exact .snoc h0 (i1 h) h2 h3
theorem opCl_len (t : DItem) (ks : List DCond) : (opCl t ks).length = arF t.op:=by
 unfold opCl
 by_cases h1 : t.op = 23
 ·rw [if_pos h1,h1]; rfl
 ·rw [if_neg h1]
  by_cases h2 : t.op = 24
  ·rw [if_pos h2,h2]; rfl
  ·rw [if_neg h2,List.length_replicate]
theorem zip_rep {α : Type} (us : List (α → Bool)) (k : α) (n : Nat) (h : us.length = n) : (List.zip us (List.replicate n k)).all (fun p => p.1 p.2) = us.all (fun g => g k):=by
 subst h
 induction us with
 | nil => rfl
 | cons u r ih => rw [List.length_cons,List.replicate_succ,List.zip_cons_cons,List.all_cons,List.all_cons,ih]
theorem fit_split (vs : List DVar) (t : DItem) (us : List Ctx) (k : List DCond) (hul : us.length = arF t.op) : fitItem vs t us k = (fitB vs t k && (List.zip us (opCl t k)).all (fun p => p.1 p.2)):=by
 unfold fitItem fitB opCl
 by_cases h12 : t.op = 1 ∨ t.op = 2
 ·rw [if_pos h12,if_neg (by omega),if_neg (by omega),if_neg (by omega),if_neg (by omega),if_neg (by omega)]
  have h0 : us = []:=List.eq_nil_of_length_eq_zero (by rw [hul]; rcases h12 with h | h <;> rw [h] <;> rfl)
  subst h0
  rfl
 rw [if_neg h12]
 by_cases h3 : t.op = 3
 ·rw [if_pos h3,if_pos h3,if_neg (by omega),if_neg (by omega)]
  have h0 : us = []:=List.eq_nil_of_length_eq_zero (by rw [hul,h3]; rfl)
  subst h0
  simp
 rw [if_neg h3,if_neg h3]
 by_cases h4 : t.op = 23
 ·rw [if_pos h4,if_pos h4,if_pos h4]
  have hl : us.length = 1:=by rw [hul,h4]; rfl
  match us,hl with
  | [u],_ => cases k.getLast? <;> simp [Bool.and_assoc]
 rw [if_neg h4,if_neg h4,if_neg h4]
 by_cases h5 : t.op = 24
 ·rw [if_pos h5,if_pos h5,if_pos h5]
  have hl : us.length = 2:=by rw [hul,h5]; rfl
  match us,hl with
  | [u,v],_ => simp [Bool.and_assoc]
 ·rw [if_neg h5,if_neg h5,if_neg h5,Bool.true_and,zip_rep us k _ hul]
theorem fitV_fd (vs : List DVar) (code : List DItem) (h : wk code 0 = true) (ks : List DCond) : ∃ g : Ctx,Fd (fitItem vs) code 0 code.length [g] ∧ fitV vs code ks = g ks:=by
 obtain ⟨s,hs⟩:=fd_all (fitItem vs) h
 refine ⟨s,hs,?_⟩
 unfold fitV
 rw [fdV_of hs]
theorem opCl_le (vs : List DVar) (t : DItem) (ks : List DCond) (h : ks.length ≤ 8) (hf : fitB vs t ks = true) : ∀ c,c ∈ opCl t ks → c.length ≤ 8:=by
 unfold opCl
 intro c hc
 by_cases h1 : t.op = 23
 ·rw [if_pos h1,List.mem_singleton] at hc
  rw [hc,List.length_dropLast]
  omega
 ·rw [if_neg h1] at hc
  by_cases h2 : t.op = 24
  ·rw [if_pos h2] at hc
   unfold fitB at hf
   rw [if_neg (by omega),if_neg h1,if_pos h2,Bool.and_eq_true,decide_eq_true_iff] at hf
   simp only [List.mem_cons,List.not_mem_nil,or_false] at hc
   rcases hc with rfl | rfl
   ·rw [List.length_append,List.length_singleton]; omega
   ·rw [List.length_append,List.length_singleton]; omega
  ·rw [if_neg h2] at hc
   rw [List.eq_of_mem_replicate hc]
   exact h
theorem fit_when {vs : List DVar} {t : DItem} {ks : List DCond} (h : t.op = 23) (hf : fitB vs t ks = true) : ks ≠ []:=fun e => by
 subst e
 unfold fitB at hf
 rw [if_neg (by omega),if_pos h] at hf
 simp at hf
theorem Grow.blkA {lo : Nat} {w w' : World} {X : Nat → Prop} {C L C' L' : List DCond → Option Nat} {N : Nat} (g : Grow lo w C L w' C' L') (h : Trie w lo X C L N) {b : Nat} {T : TypeId} {cs : Array Value} (hb : BlkAt w b T cs) (hT : T ≠ 91) : BlkAt w' b T cs:=by
 refine (g.keep.block b hb.lt (fun cs' => blk_not hb hT) (fun ks e => ?_)).trans hb
 obtain ⟨D9,⟨es,ck,h2,_⟩,_⟩:=(h.map ks b e).1
 have h9:=h2.symm.trans hb
 cases h9
theorem Fd.zero {α : Type} {f : DItem → List α → α} {code : List DItem} {b : Nat} {gs : List α} (h : Fd f code b 0 gs) : gs = []:=by
 generalize he : 0 = e at h
 cases h using Fd.inv with
 | nil => rfl
 | snoc _ _ _ _ => cases he
theorem Fd.top {α : Type} {f : DItem → List α → α} {code : List DItem} {k : Nat} {gs : List α} (h : Fd f code 0 (k + 1) gs) : ∃ (hk : k < code.length) (m : Nat) (ss us : List α),gs = ss ++ [f code[k] us] ∧ Fd f code 0 m ss ∧ Fd f code m k us ∧ us.length = arF code[k].op:=by
 generalize he : k + 1 = e at h
 generalize hb : 0 = b at h
 cases h using Fd.inv with
 | nil => omega
 | @snoc _ m e ss us h h1 h2 h3 =>
  have e' : k = e:=by omega
  subst e'
  subst hb
  exact ⟨h,m,ss,us,rfl,h1,h2,h3⟩
theorem map_snoc {C : List DCond → Option Nat} {st : List (List DCond)} {ps : List Nat} (h : st.map C = ps.map some) (hs : st ≠ []) : ∃ s0 top p0 pt,st = s0 ++ [top] ∧ ps = p0 ++ [pt] ∧ s0.map C = p0.map some ∧ C top = some pt:=by
 rcases List.eq_nil_or_concat st with h1 | ⟨s0,top,h1⟩
 ·exact absurd h1 hs
 rcases List.eq_nil_or_concat ps with h2 | ⟨p0,pt,h2⟩
 ·rw [h1,h2] at h
  simp at h
 rw [List.concat_eq_append] at h1 h2
 rw [h1,h2,List.map_append,List.map_append] at h
 have h3:=List.append_inj' h (by simp)
 refine ⟨s0,top,p0,pt,h1,h2,h3.1,?_⟩
 simpa using h3.2
theorem zip_snoc {α β : Type} (ss : List α) (s0 : List β) (u : α) (k : β) (h : ss.length = s0.length) (f : α × β → Bool) : (List.zip (ss ++ [u]) (s0 ++ [k])).all f = ((List.zip ss s0).all f && f (u,k)):=by
 rw [List.zip_append h,List.all_append]
 simp
structure CxI (W w : World) (nv : Value) (vs : List DVar) (G : List Int) (sb vb : Nat) (ov : Value) (D : List Nat) (C L : List DCond → Option Nat) (N : Nat) (code : List DItem) (ok : Bool) (fb k : Nat) (sv : Value) (wr : World) : Prop where
 ex : ∃ (st : List (List DCond)) (ps : List Nat) (C' L' : List DCond → Option Nat) (N' : Nat) (gs : List Ctx),Sc W wr nv .nilFunc vs G sb vb ov D C' L' N' ∧ Grow W.heap.size w C L wr C' L' ∧ OwnV elCtx wr (fb + 1) sv ps ∧ st.map C' = ps.map some ∧ (∃ r,BlkAt wr fb 88 r ∧ r.size = code.length) ∧ Fd (fitItem vs) code 0 k gs ∧ gs.length = st.length ∧ ok = (List.zip gs st).all (fun p => p.1 p.2) ∧ N' ≤ N + 2 * (code.length - k) ∧ (∀ c,c ∈ st → c.length ≤ 8)
def CxPost (W : World) (nv : Value) (vs : List DVar) (G : List Int) (sb vb : Nat) (ov : Value) (D : List Nat) (C L : List DCond → Option Nat) (N n : Nat) (ok : Bool) (w : World) (e : Ending) (w' : World) : Prop :=
 ∃ (v : Value) (C' L' : List DCond → Option Nat) (N' : Nat),e = .returned v ∧ Sc W w' nv .nilFunc vs G sb vb ov D C' L' N' ∧ N' ≤ N + 2 * n ∧ Grow W.heap.size w C L w' C' L' ∧ (ok = true → ∃ fb,v = .slice (some ⟨fb,0,none⟩) n n) ∧ (ok = false → v = .slice none 0 0)
structure CxA (W w : World) (nv : Value) (vs : List DVar) (G : List Int) (sb vb : Nat) (ov : Value) (D : List Nat) (C L C' L' : List DCond → Option Nat) (N' : Nat) (n fb m g cap : Nat) (p0 : List Nat) (pt k cb co : Nat) (t : DItem) (wr : World) : Prop where
 sc : Sc W wr nv .nilFunc vs G sb vb ov D C' L' N'
 gr : Grow W.heap.size w C L wr C' L'
 own : OwnV elCtx wr (fb + 1) (.slice (some ⟨g,0,none⟩) m cap) p0
 row : ∃ r,BlkAt wr fb 88 r ∧ r.size = n
 fc : wr.cell? ⟨fb,k,none⟩ = some (ptrN pt)
 i0 : wr.cell? ⟨cb,co,none⟩ = some (.int .i64 t.op)
 i1 : wr.cell? ⟨cb,co + 1,none⟩ = some (.int .i64 t.val)
 i2 : wr.cell? ⟨cb,co + 2,none⟩ = some (.string t.name)
theorem CxA.below {W w : World} {nv : Value} {vs : List DVar} {G : List Int} {sb vb : Nat} {ov : Value} {D : List Nat} {C L C' L' : List DCond → Option Nat} {N' n fb m g cap : Nat} {p0 : List Nat} {pt k cb co : Nat} {t : DItem} {wr w' : World} (h : CxA W w nv vs G sb vb ov D C L C' L' N' n fb m g cap p0 pt k cb co t wr) (hb : Below wr.heap.size wr w') : CxA W w nv vs G sb vb ov D C L C' L' N' n fb m g cap p0 pt k cb co t w':=by
 have c : ∀ {p : Addr} {v : Value},wr.cell? p = some v → w'.cell? p = some v:=fun {p v} h9 => (hb.cell (World.block_lt_of_cell? wr _ h9)).trans h9
 obtain ⟨r,hr,hr2⟩:=h.row
 exact ⟨h.sc.below hb,h.gr.trans (Grow.of_below hb h.sc.old.size),h.own.below hb,⟨r,hr.below hb hr.lt,hr2⟩,c h.fc,c h.i0,c h.i1,c h.i2⟩
theorem CxA.push {W w : World} {nv : Value} {vs : List DVar} {G : List Int} {sb vb : Nat} {ov : Value} {D : List Nat} {C L C' L' : List DCond → Option Nat} {N N' fb m g cap : Nat} {p0 : List Nat} {pt k cb co : Nat} {t : DItem} {wr : World} {code : List DItem} (h : CxA W w nv vs G sb vb ov D C L C' L' N' code.length fb m g cap p0 pt k cb co t wr)
  (hm : p0.length = m) (hW : W.heap.size ≤ w.heap.size) (hfb : fb = w.heap.size) (hcb : cb < W.heap.size) (s0 : List (List DCond)) (top : List DCond) (hs0 : s0.map C' = p0.map some) (htop : C' top = some pt) (hk : k < code.length) (ht : code[k] = t) (hc9 : code.length ≤ 6000) (hsl : ∀ c,c ∈ s0 ++ [top] → c.length ≤ 8)
  (m0 : Nat) (ss us : List Ctx) (f1 : Fd (fitItem vs) code 0 m0 ss) (f2 : Fd (fitItem vs) code m0 k us) (hul : us.length = arF t.op) (hsl2 : ss.length = s0.length) (ok : Bool) (hok : ok = (List.zip (ss ++ [fitItem vs t us]) (s0 ++ [top])).all (fun p => p.1 p.2)) (hN : N' ≤ N + 2 * (code.length - (k + 1)))
  (hfit : fitB vs t top = true) {e : Ending} {w3 : World} (hoc : OcPost W.heap.size (fun x => x = vb) C' L' N' (opCl t top) wr e w3) :
  ∃ (ob n2 g' cap' : Nat) (w4 : World),e = .returned (.slice (some ⟨ob,0,none⟩) n2 n2) ∧ (∀ ty,(Builtin.append_ #[175,175] ty #[.slice (some ⟨g,0,none⟩) m cap,.slice (some ⟨ob,0,none⟩) n2 n2]).run Tryz.prog w3 = .ok (.slice (some ⟨g',0,none⟩) (m + n2) cap') w4) ∧ CxI W w nv vs G sb vb ov D C L N code ok fb k (.slice (some ⟨g',0,none⟩) (m + n2) cap') w4 ∧
   (w3.cell? ⟨fb,k,none⟩ = some (ptrN pt) ∧ w3.cell? ⟨cb,co,none⟩ = some (.int .i64 t.op) ∧ w3.cell? ⟨cb,co + 1,none⟩ = some (.int .i64 t.val) ∧ w3.cell? ⟨cb,co + 2,none⟩ = some (.string t.name)) ∧
   (w4.cell? ⟨fb,k,none⟩ = some (ptrN pt) ∧ w4.cell? ⟨cb,co,none⟩ = some (.int .i64 t.op) ∧ w4.cell? ⟨cb,co + 1,none⟩ = some (.int .i64 t.val) ∧ w4.cell? ⟨cb,co + 2,none⟩ = some (.string t.name)):=by
 obtain ⟨ob,qs,C2,L2,N2,rfl,hob,hobs,htr,hN2,hgr,hmap⟩:=hoc
 have sc3:=h.sc.grow hgr htr
 have gr3:=h.gr.trans hgr
 have own3:=hgr.rowC h.sc.trie h.own
 obtain ⟨r,hr,hrs⟩:=h.row
 have hr3:=hgr.blkA h.sc.trie hr (by decide)
 have hql : qs.length = arF t.op:=by
  have h9:=congrArg List.length hmap
  rw [List.length_map,List.length_map,opCl_len] at h9
  exact h9.symm
 have har : arF t.op ≤ 3:=by unfold arF; have:=ocI_bd t.op; omega
 have hg1 : fb + 1 ≤ g:=own3.block g rfl
 have hp6 : p0.length ≤ 6000:=by
  have h8:=congrArg List.length hs0
  rw [List.length_map,List.length_map] at h8
  have h9:=f1.lenLe
  have h7:=f2.le
  omega
 subst hm
 have hsl3 : SlAt 1 8 (RFl elCtx) 0 w3 (.slice (some ⟨ob,0,none⟩) qs.length qs.length) qs:=by
  refine ⟨_,_,rfl,⟨by unfold Len; omega,Nat.le_refl _⟩,by unfold Len; omega,fun i hi => ⟨ob,0,[ptrN qs[i]],rfl,Nat.zero_le _,hob.lt,rfl,fun j hj => ?_,rfl⟩⟩
  have hj0 : j = 0:=by simpa using hj
  subst hj0
  refine hob.cell (v:=ptrN qs[i]) ?_
  rw [Nat.mul_one,Nat.zero_add,Nat.add_zero]
  simp [hi]
 have hsz3 : fb + 1 ≤ w3.heap.size:=by
  have:=(own3.lt g rfl).2
  omega
 have hall : ∀ ty,∃ g' cap' w4,(Builtin.append_ #[175,175] ty #[.slice (some ⟨g,0,none⟩) p0.length cap,.slice (some ⟨ob,0,none⟩) qs.length qs.length]).run Tryz.prog w3 = .ok (.slice (some ⟨g',0,none⟩) (p0.length + qs.length) cap') w4 ∧ OwnV elCtx w4 (fb + 1) (.slice (some ⟨g',0,none⟩) (p0.length + qs.length) cap') (p0 ++ qs) ∧ w3.grownBy w4 (some g):=fun ty =>
  run_append_all elCtx (R:=RFl elCtx) (RFl_f elCtx) w3 ty (fb + 1) g cap p0 own3 _ qs hsl3 (by show (p0.length + qs.length) * 8 ≤ _; omega) hsz3
 obtain ⟨g',cap',w4,hrun,hown4,hgr4⟩:=hall 175
 have hrun' : ∀ ty,(Builtin.append_ #[175,175] ty #[.slice (some ⟨g,0,none⟩) p0.length cap,.slice (some ⟨ob,0,none⟩) qs.length qs.length]).run Tryz.prog w3 = .ok (.slice (some ⟨g',0,none⟩) (p0.length + qs.length) cap') w4:=fun ty => hrun
 obtain ⟨cur,hcur⟩:=own3.cellsOf (g:=g) rfl
 have sc4:=sc3.row hcur (by decide) (by decide) (by decide) (by decide) (by omega) hgr4
 have gr4:=gr3.rowAfter hgr4 (by omega) hW
 have hne : fb ≠ g:=by omega
 have hr4 : BlkAt w4 fb 88 r:=(hgr4.block fb hr3.lt (fun e => hne (Option.some.inj e))).trans hr3
 have cW : ∀ {a : Addr} {v : Value} {u u' : World},a.block < W.heap.size → Below W.heap.size W u → Below W.heap.size W u' → u.cell? a = some v → u'.cell? a = some v:=fun {a v u u'} ha h1 h2 h3 => (h2.cell ha).trans ((h1.cell ha).symm.trans h3)
 have c3 : ∀ {a : Addr} {v : Value},a.block = fb → wr.cell? a = some v → w3.cell? a = some v:=fun {a v} ha h9 => (World.cell?_of_block (w:=wr) (by rw [ha]; exact hr3.trans hr.symm)).trans h9
 have c4 : ∀ {a : Addr} {v : Value},a.block = fb → w3.cell? a = some v → w4.cell? a = some v:=fun {a v} ha h9 => (World.cell?_of_block (w:=w3) (by rw [ha]; exact hr4.trans hr3.symm)).trans h9
 have fc3:=c3 rfl h.fc
 have j0:=cW hcb h.sc.old sc3.old h.i0
 have j1:=cW hcb h.sc.old sc3.old h.i1
 have j2:=cW hcb h.sc.old sc3.old h.i2
 refine ⟨ob,qs.length,g',cap',w4,rfl,hrun',⟨⟨s0 ++ opCl t top,p0 ++ qs,C2,L2,N2,ss ++ us,sc4,gr4,hown4,?_,⟨r,hr4,hrs⟩,f1.app f2,?_,?_,by omega,?_⟩⟩,⟨fc3,j0,j1,j2⟩,⟨c4 rfl fc3,cW hcb sc3.old sc4.old j0,cW hcb sc3.old sc4.old j1,cW hcb sc3.old sc4.old j2⟩⟩
 ·have hs2 : s0.map C2 = s0.map C':=by
   refine List.map_congr_left (fun c hc => ?_)
   obtain ⟨q,hq⟩ : ∃ q,C' c = some q:=by
    have h9 : C' c ∈ p0.map some:=by rw [← hs0]; exact List.mem_map_of_mem hc
    obtain ⟨q,_,hq⟩:=List.mem_map.1 h9
    exact ⟨q,hq.symm⟩
   rw [hq,hgr.c _ _ hq]
  rw [List.map_append,List.map_append,hmap,hs2,hs0]
 ·rw [List.length_append,List.length_append,opCl_len,hul,hsl2]
 ·rw [hok,zip_snoc ss s0 _ _ hsl2,List.zip_append hsl2,List.all_append]
  simp only
  rw [fit_split vs t us top hul,hfit,Bool.true_and]
 ·intro c hc
  rcases List.mem_append.1 hc with h9 | h9
  ·exact hsl c (List.mem_append.2 (Or.inl h9))
  ·exact opCl_le vs t top (hsl top (by simp)) hfit c h9
theorem step_append_run {P : Program} {w w' : World} {ops : Array Oper} {o : Oper} {a : Act} {K : Act → World → Prop} {Q : Exit → Act → World → Prop} {Er : Prop} (hgd : o.guard = none) (s x : Operand) (t ty : TypeId)
  (ho : o.op = .call { callee:=.builtin .append,args:=#[s,x],argTypes:=#[t,t] }) (hty : o.type = ty) (v xv v' : Value) (hs : a.eval s = v) (hx : a.eval x = xv) (hrun : (Builtin.append_ #[t,t] ty #[v,xv]).run P w = .ok v' w') (h : K (a.put o.dst v') w') :
  if Region.wanted o (yielded ops a.tmps) = true then Oper.wp P o a w K Q else Er:=by
 have hwant : Region.wanted o (yielded ops a.tmps) = true:=by simp [Region.wanted,hgd]
 rw [if_pos hwant]
 subst hty
 unfold Oper.wp execOp
 simp only [ho,resolve,invoke,builtin,Sem.run_bind,Sem.run_pure,Result.andThen_ok,List.map_toArray,List.map_cons,List.map_nil,hs,hx,hrun]
 exact h
set_option maxRecDepth 20000 in
set_option maxHeartbeats 8000000 in
theorem contexts_ok (W w : World) (nv : Value) (vs : List DVar) (G : List Int) (sb vb : Nat) (ov : Value) (D : List Nat) (C L : List DCond → Option Nat) (N : Nat) (hS : Sc W w nv .nilFunc vs G sb vb ov D C L N) (code : List DItem) (cv : Value) (hcv : SlAt 3 32 RItem 0 W cv code) (hcd : CdOK code)
  (hnm : ∀ t,t ∈ code → t.op = 3 ∨ t.op = 23 ∨ t.op = 24 → lookN vs t.name < vs.length) (ks : List DCond) (p : Nat) (hp : C ks = some p) (hkl : ks.length ≤ 8) (hN : N + 2 * code.length + 2 < maxLen) :
  Calls Tryz.prog 117 #[.pointer (some ⟨sb,0,none⟩),cv,.pointer (some ⟨p,0,none⟩)] w (CxPost W nv vs G sb vb ov D C L N code.length (fitV vs code ks) w):=by
 have hnl:=hcd.2.2
 obtain ⟨ca,cc,hcve⟩:=hcv.shape
 subst hcve
 have hW:=hS.old.size
 obtain ⟨gg,hfd,hgg⟩:=fitV_fd vs code hcd.2.1 ks
 obtain ⟨ok,hok⟩ : ∃ ok,ok = fitV vs code ks:=⟨_,rfl⟩
 rw [← hok]
 have hmk : (Instr.makeSlice 175 (.int .i64 (code.length : Int)) (.int .i64 (code.length : Int))).run Tryz.prog w = .ok (.slice (some ⟨w.heap.size,0,none⟩) code.length code.length) (w.alloc (.cells (madeCells (Value.pointer none).cells (code.length * 1)) 88)):=make_rows (P:=Tryz.prog) 175 88 (.pointer none) 1 8 Tryz.underlying175 info_cp code.length (by omega) (by omega) w
 obtain ⟨w1,hw1⟩ : ∃ z,z = w.alloc (.cells (madeCells (Value.pointer none).cells (code.length * 1)) 88):=⟨_,rfl⟩
 rw [← hw1] at hmk
 have hB1 : Below w.heap.size w w1:=by rw [hw1]; exact (Below.refl _ _).alloc (Nat.le_refl _) _
 have hB2 : Below w.heap.size w (w1.alloc (.cells #[.pointer (some ⟨p,0,none⟩)] 88)):=hB1.alloc hB1.size _
 have hs1 : w1.heap.size = w.heap.size + 1:=by rw [hw1]; simp
 have HST : Hid (CxI W w nv vs G sb vb ov D C L N code ok w.heap.size code.length (.slice (some ⟨w1.heap.size,0,none⟩) 1 1) (w1.alloc (.cells #[.pointer (some ⟨p,0,none⟩)] 88))):=by
  refine hide ⟨[ks],[p],C,L,N,[gg],hS.below hB2,Grow.of_below hB2 hW,?_,by rw [List.map_cons,hp]; rfl,?_,hfd,rfl,?_,by omega,fun c hc => by rw [List.mem_singleton] at hc; rw [hc]; exact hkl⟩
  ·have h9:=OwnV.one (E:=elCtx) w1 (w.heap.size + 1) (by omega) p
   exact h9
  ·refine ⟨madeCells (Value.pointer none).cells (code.length * 1),?_,by rw [size_madeCells,Nat.mul_one]⟩
   have h9:=blk_box w (madeCells (Value.pointer none).cells (code.length * 1)) 88
   rw [← hw1] at h9
   exact h9.below ((Below.refl _ w1).alloc (Nat.le_refl _) _) h9.lt
  ·rw [hok,hgg]
   simp
 rw [hs1] at HST
 have HS:=hide hS
 have HCV:=hide hcv
 have HCD:=hide hcd
 have HNM:=hide hnm
 have HN:=hide hN
 have HW:=hide hW
 obtain ⟨PO,hPO⟩ : ∃ PO : Ending → World → Prop,PO = CxPost W nv vs G sb vb ov D C L N code.length ok w:=⟨_,rfl⟩
 rw [← hPO]
 have HPO:=hide hPO
 obtain ⟨fb,hfb⟩ : ∃ z,z = w.heap.size:=⟨_,rfl⟩
 rw [← hfb] at HST hmk hs1
 have HFB:=hide hfb
 have hnw : IntKind.i64.wrap ((code.length : Int) - 1) = (code.length : Int) - 1:=by
  rw [IntKind.wrap_i64]
  omega
 clear hS hcv hcd hnm hN hW hPO hw1 hB1 hB2 hfd hgg hok hp hfb
 go_enter Tryz.func117,Tryz.ntmps117
 go_wp2
 clear hmk
 go_loopg [8,9] code.length (fun gm sv iv wr => ∃ (k : Nat),k ≤ code.length ∧ gm = k ∧ iv = .int .i64 ((k : Int) - 1) ∧ CxI W w nv vs G sb vb ov D C L N code ok fb k sv wr)
 case atStart => exact ⟨code.length,Nat.le_refl _,rfl,rfl,by first | exact uh HST | (rw [hs1]; exact uh HST)⟩
 case round =>
  obtain ⟨k,hk,hg,hiv,hcx⟩:=hrel
  rename World => wr
  clear HST hnw hs1
  have HG:=hide hg
  clear hg
  rcases Nat.eq_zero_or_pos k with hk0 | hk0
  ·subst hk0
   have hiv' : _ = Value.int .i64 (-1):=hiv
   subst hiv'
   have HFIN : Hid (PO (.returned (.slice (some ⟨fb,0,none⟩) code.length code.length)) wr):=by
    obtain ⟨st,ps,C',L',N',gs,x1,x2,x3,x4,x5,x6,x7,x8,x9,x10⟩:=hcx
    have hgs:=x6.zero
    subst hgs
    rw [uh HPO]
    refine hide ⟨_,C',L',N',rfl,x1,by omega,x2,fun _ => ⟨fb,rfl⟩,fun h9 => ?_⟩
    rw [x8] at h9
    simp at h9
   clear hcx hiv
   go_wp2
   exact uh HFIN
  obtain ⟨i,rfl⟩ : ∃ z,k = z + 1:=⟨k - 1,by omega⟩
  have hiv' : _ = Value.int .i64 (i : Int):=hiv.trans (by congr 1; omega)
  subst hiv'
  obtain ⟨st,ps,C',L',N',gs,x1,x2,x3,x4,⟨r,x5,x5b⟩,x6,x7,x8,x9,x10⟩:=hcx
  obtain ⟨hi,m0,ss,us,hgs,f1,f2,hul⟩:=x6.top
  have hst0 : st ≠ []:=fun e => by
   rw [e,hgs] at x7
   simp at x7
  obtain ⟨s0,top,p0,pt,hst,hps,hs0,htop⟩:=map_snoc x4 hst0
  have hit:=(uh HCD).1 _ (List.getElem_mem hi)
  have hop:=((it_iff code[i]).1 hit).1
  have hnm9:=uh HNM _ (List.getElem_mem hi)
  obtain ⟨g,cap,hsv,hgb,hglt,hgc⟩ : ∃ g cap,_ = Value.slice (some ⟨g,0,none⟩) ps.length cap ∧ fb + 1 ≤ g ∧ g < wr.heap.size ∧ ps.length ≤ cap:=by
   rcases x3.shape with ⟨_,h9⟩ | h9
   ·rw [hps] at h9; simp at h9
   ·exact h9
  have hpl : ps.length = p0.length + 1:=by rw [hps]; simp
  have hsl0 : s0.length = p0.length:=by
   have h8:=congrArg List.length hs0
   simpa using h8
  have hssl : ss.length = s0.length:=by
   rw [hgs,hst] at x7
   simpa using x7
  have hp6 : p0.length ≤ 6000:=by
   have h9:=f1.lenLe
   have h7:=f2.le
   omega
  rw [hpl] at hsv hgc
  subst hsv
  have o1:=x3.cellC (g:=g) (c:=cap) (n:=p0.length + 1) rfl p0.length (by omega)
  rw [show ps[p0.length]'(by omega) = pt from by simp [hps]] at o1
  have hown1 : OwnV elCtx wr (fb + 1) (.slice (some ⟨g,0,none⟩) p0.length cap) p0:=by
   have h9:=x3
   rw [← hpl] at h9
   have h8:=h9.cutF (m:=p0.length) (by omega)
   rw [show ps.take p0.length = p0 from by rw [hps,List.take_left]] at h8
   exact h8
  obtain ⟨_,_,hve2,_,_,hxx⟩:=uh HCV
  simp only [Value.slice.injEq] at hve2
  obtain ⟨rfl,_,rfl⟩:=hve2
  obtain ⟨cb,co,cs,rfl,_,hcb,hcs,hcc,hRR⟩:=hxx i hi
  obtain ⟨rfl,hsn,hop9,hvl⟩:=hRR
  have c0:=(x1.old.cell (p:=⟨cb,_,none⟩) hcb).trans (hcc 0 (by simp))
  have c1:=(x1.old.cell (p:=⟨cb,_,none⟩) hcb).trans (hcc 1 (by simp))
  have c2:=(x1.old.cell (p:=⟨cb,_,none⟩) hcb).trans (hcc 2 (by simp))
  simp only [Nat.mul_one,Nat.add_zero,List.getElem_cons_zero,List.getElem_cons_succ] at c0 c1 c2
  have hW:=uh HW
  have hfb:=uh HFB
  have hri : i < r.size:=by rw [x5b]; exact hi
  have r0:=x5.cell (i:=i) (v:=r[i]) (by simp [hri])
  have r0z:=x5.free i
  generalize r[i] = rv at r0
  have hA : CxA W w nv vs G sb vb ov D C L C' L' N' code.length fb p0.length g cap p0 pt i cb (co + i * 3) code[i] (wr.setCell ⟨fb,i,none⟩ (.pointer (some ⟨pt,0,none⟩))):=by
   have hgr:=set_grown wr ⟨fb,i,none⟩ (.pointer (some ⟨pt,0,none⟩))
   have hset:=x5.set i (.pointer (some ⟨pt,0,none⟩))
   have hc : ∀ {a : Addr} {v : Value},a.block < W.heap.size → wr.cell? a = some v → (wr.setCell ⟨fb,i,none⟩ (.pointer (some ⟨pt,0,none⟩))).cell? a = some v:=fun {a v} ha h9 => (World.cell?_setCell_far _ _ _ _ (by simp only; omega)).trans h9
   refine ⟨x1.row x5 (by decide) (by decide) (by decide) (by decide) (by omega) hgr,x2.rowAfter hgr (by simp only; omega) hW,hown1.ofBlock (fun b hb => ?_),⟨_,hset,by rw [Array.size_setIfInBounds]; exact x5b⟩,hset.cell (v:=ptrN pt) (by simp [hri,ptrN]),hc hcb c0,hc hcb c1,hc hcb c2⟩
   have hbg : b = g:=by
    have h9 : (Value.slice (some ⟨g,0,none⟩) p0.length cap).ownBlock = some g:=rfl
    rw [h9] at hb
    exact (Option.some.inj hb).symm
   exact Below.heap_setCell _ _ _ _ (by simp only; omega)
  have HA:=hide hA
  have HFITS : Hid (Calls Tryz.prog 133 #[.pointer (some ⟨sb,0,none⟩),.agg #[.int .i64 code[i].op,.int .i64 code[i].val,.string code[i].name],.pointer (some ⟨pt,0,none⟩)] (wr.setCell ⟨fb,i,none⟩ (.pointer (some ⟨pt,0,none⟩))).drew fun e w' => e = .returned (.bool (fitB vs code[i] top)) ∧ Hid (CxA W w nv vs G sb vb ov D C L C' L' N' code.length fb p0.length g cap p0 pt i cb (co + i * 3) code[i] w') ∧ (w'.cell? ⟨fb,i,none⟩ = some (.pointer (some ⟨pt,0,none⟩)) ∧ w'.cell? ⟨cb,co + i * 3,none⟩ = some (.int .i64 code[i].op) ∧ w'.cell? ⟨cb,co + i * 3 + 1,none⟩ = some (.int .i64 code[i].val) ∧ w'.cell? ⟨cb,co + i * 3 + 2,none⟩ = some (.string code[i].name))):=by
   have hbd : Below (wr.setCell ⟨fb,i,none⟩ (.pointer (some ⟨pt,0,none⟩))).heap.size (wr.setCell ⟨fb,i,none⟩ (.pointer (some ⟨pt,0,none⟩))) (wr.setCell ⟨fb,i,none⟩ (.pointer (some ⟨pt,0,none⟩))).drew:=(Below.refl _ _).drew
   have hAd:=hA.below hbd
   refine hide ((fits_ok W _ nv vs G sb vb ov D C' L' N' hAd.sc code[i] (by unfold Len at hsn; unfold maxLen; omega) hop hnm9 top pt htop).mono ?_)
   rintro e w' ⟨rfl,hb⟩
   have hAe:=hA.below (below_drew_l hb)
   exact ⟨rfl,hAe,hAe.fc,hAe.i0,hAe.i1,hAe.i2⟩
  have HBAD : Hid (fitB vs code[i] top = false → ∀ w',CxA W w nv vs G sb vb ov D C L C' L' N' code.length fb p0.length g cap p0 pt i cb (co + i * 3) code[i] w' → PO (.returned (.slice none 0 0)) w'):=fun h9 w' ha => by
   rw [uh HPO]
   refine ⟨_,C',L',N',rfl,ha.sc,by omega,ha.gr,fun h8 => ?_,fun _ => rfl⟩
   rw [x8,hgs,hst,zip_snoc ss s0 _ _ hssl] at h8
   simp only at h8
   rw [fit_split vs code[i] us top hul,h9] at h8
   simp at h8
  have HOP : Hid (fitB vs code[i] top = true → ∀ w',CxA W w nv vs G sb vb ov D C L C' L' N' code.length fb p0.length g cap p0 pt i cb (co + i * 3) code[i] w' → Calls Tryz.prog 134 #[.agg #[.int .i64 code[i].op,.int .i64 code[i].val,.string code[i].name],.pointer (some ⟨pt,0,none⟩)] w'.drew fun e w3 => ∃ (ob n2 g' cap' : Nat) (w4 : World),e = .returned (.slice (some ⟨ob,0,none⟩) n2 n2) ∧ (∀ ty,(Builtin.append_ #[175,175] ty #[.slice (some ⟨g,0,none⟩) p0.length cap,.slice (some ⟨ob,0,none⟩) n2 n2]).run Tryz.prog w3 = .ok (.slice (some ⟨g',0,none⟩) (p0.length + n2) cap') w4) ∧ Hid (CxI W w nv vs G sb vb ov D C L N code ok fb i (.slice (some ⟨g',0,none⟩) (p0.length + n2) cap') w4) ∧
   (w3.cell? ⟨fb,i,none⟩ = some (.pointer (some ⟨pt,0,none⟩)) ∧ w3.cell? ⟨cb,co + i * 3,none⟩ = some (.int .i64 code[i].op) ∧ w3.cell? ⟨cb,co + i * 3 + 1,none⟩ = some (.int .i64 code[i].val) ∧ w3.cell? ⟨cb,co + i * 3 + 2,none⟩ = some (.string code[i].name)) ∧
   (w4.cell? ⟨fb,i,none⟩ = some (.pointer (some ⟨pt,0,none⟩)) ∧ w4.cell? ⟨cb,co + i * 3,none⟩ = some (.int .i64 code[i].op) ∧ w4.cell? ⟨cb,co + i * 3 + 1,none⟩ = some (.int .i64 code[i].val) ∧ w4.cell? ⟨cb,co + i * 3 + 2,none⟩ = some (.string code[i].name))):=fun hft w' ha => by
   have had:=ha.below ((Below.refl _ _).drew)
   have hNN:=uh HN
   refine (opCtx_ok w'.drew W.heap.size (fun x => x = vb) C' L' N' had.sc.trie had.sc.old.size code[i] (by unfold Len at hsn; unfold maxLen; omega) hop (by omega) top (by have:=x10 top (by rw [hst]; simp); omega) (fun h9 => fit_when h9 hft) pt htop).mono ?_
   intro e w3 hoc
   exact had.push rfl hW hfb hcb s0 top hs0 htop hi rfl hnl (fun c hc => x10 c (by rw [hst]; exact hc)) m0 ss us f1 f2 hul hssl ok (by rw [x8,hgs,hst]) (by omega) hft hoc
  have a0:=hA.i0
  have a1:=hA.i1
  have a2:=hA.i2
  have a3 : (wr.setCell ⟨fb,i,none⟩ (.pointer (some ⟨pt,0,none⟩))).cell? ⟨fb,i,none⟩ = some (.pointer (some ⟨pt,0,none⟩)):=hA.fc
  have hiI : (0 : Int) ≤ (i : Int):=by omega
  have hiL : (i : Int) < (code.length : Int):=by omega
  have hpI : (p0.length : Int) < (p0.length : Int) + 1:=by omega
  have hpc : (p0.length : Int) ≤ (cap : Int):=by omega
  have hcp0 : ¬ cap = 0:=by omega
  have hw1 : IntKind.i64.wrap ((p0.length : Int) + 1 - 1) = (p0.length : Int):=by
   rw [IntKind.wrap_i64]
   omega
  have hw2 : IntKind.i64.wrap (p0.length : Int) = (p0.length : Int):=by
   rw [IntKind.wrap_i64]
   omega
  have hw3 : IntKind.i64.wrap ((i : Int) - 1) = (i : Int) - 1:=by
   rw [IntKind.wrap_i64]
   omega
  have HI:=hide hi
  have o1' : wr.cell? ⟨g,p0.length,none⟩ = some (.pointer (some ⟨pt,0,none⟩)):=o1
  have hp61:=hp6
  generalize hbB : fitB vs code[i] top = bB at *
  generalize code[i] = t at *
  clear hiv hA x1 x2 x3 x4 x5 x5b x6 x7 x8 x9 x10 hst hps hs0 htop hst0 hgs f1 f2 hul hop hnm9 hit hpl hsl0 hssl hown1 hxx hcc hcs hcb hsn hop9 hvl c0 c1 c2 o1 hri hbB hgb hglt hW hfb hp6 hgc hi hk HW HN HNM HCD HS HFB
  generalize p0.length = m at *
  obtain ⟨wS,hwS⟩ : ∃ z,z = wr.setCell ⟨fb,i,none⟩ (.pointer (some ⟨pt,0,none⟩)):=⟨_,rfl⟩
  cases bB
  ·have HF:=hide (uh HBAD rfl)
   clear HBAD HOP
   go_wp2_with fail
   rw [← hwS] at HA HFITS a0 a1 a2 a3 ⊢
   clear hwS
   go_region_held3 (fun w' => w'.cell? ⟨fb,i,none⟩ = some (.pointer (some ⟨pt,0,none⟩)) ∧ w'.cell? ⟨cb,co + i * 3,none⟩ = some (.int .i64 t.op) ∧ w'.cell? ⟨cb,co + i * 3 + 1,none⟩ = some (.int .i64 t.val) ∧ w'.cell? ⟨cb,co + i * 3 + 2,none⟩ = some (.string t.name)) (go_keep) (first | (go_at_call 133; refine (uh HFITS).mono ?_; rintro e w2 ⟨rfl,HA2,z0,z1,z2,z3⟩))
   have HE:=hide (uh HF w2 (uh HA2))
   clear z0 z1 z2 z3 a0 a1 a2 a3 HFITS HF HA HA2
   go_wp2
   exact uh HE
  ·have HF:=hide (uh HOP rfl)
   clear HBAD HOP
   go_wp2_with fail
   rw [← hwS] at HA HFITS a0 a1 a2 a3 ⊢
   clear hwS
   go_region_held3 (fun w' => w'.cell? ⟨fb,i,none⟩ = some (.pointer (some ⟨pt,0,none⟩)) ∧ w'.cell? ⟨cb,co + i * 3,none⟩ = some (.int .i64 t.op) ∧ w'.cell? ⟨cb,co + i * 3 + 1,none⟩ = some (.int .i64 t.val) ∧ w'.cell? ⟨cb,co + i * 3 + 2,none⟩ = some (.string t.name)) (go_keep) (first | (go_at_call 133; refine (uh HFITS).mono ?_; rintro e w2 ⟨rfl,HA2,z0,z1,z2,z3⟩))
   have HOC:=hide (uh HF w2 (uh HA2))
   clear a0 a1 a2 a3 HFITS HF HA HA2 o1' r0 r0z
   go_wp2_with fail
   go_region_held3 (fun w' => w'.cell? ⟨fb,i,none⟩ = some (.pointer (some ⟨pt,0,none⟩)) ∧ w'.cell? ⟨cb,co + i * 3,none⟩ = some (.int .i64 t.op) ∧ w'.cell? ⟨cb,co + i * 3 + 1,none⟩ = some (.int .i64 t.val) ∧ w'.cell? ⟨cb,co + i * 3 + 2,none⟩ = some (.string t.name)) (go_keep) (first | (go_at_call 134; refine (uh HOC).mono ?_; rintro e w3 ⟨ob,n2,g',cap',w4,rfl,hrun,HCX,⟨y0,y1,y2,y3⟩,⟨v0,v1,v2,v3⟩⟩) | (refine step_append_run rfl _ _ 175 175 rfl rfl _ _ _ rfl rfl (hrun _) ?_))
   clear z0 z1 z2 z3 y0 y1 y2 y3 v0 v1 v2 v3 hrun HOC
   go_wp2
   go_roundg i
   case measure =>
    have h9:=uh HG
    omega
   case rel => exact ⟨i,by have:=uh HI; omega,rfl,by go_num,uh HCX⟩
end Go.Proofs.YtfioeoihociilaaGreat
