import Derived.Test.YtjjldnkhadakcaaGreatMI10
namespace Go.Proofs.YtjjldnkhadakcaaGreat
open Go.RowKit
set_option linter.unusedSimpArgs false
set_option linter.unusedVariables false
def PL.app : PL → PL → PL
 | ⟨none⟩,u => u
 | ⟨some (s, r, none)⟩,u => .leaf s (r.app u)
 | ⟨some (s, r, some (el, a, en, b))⟩,u => .br s a el b en (r.app u)
theorem PL.app_nil (t : PL) : t.app .nil = t:=by
 induction t using PL.ind with
 | nil => rfl
 | leaf s r ih => simp only [PL.app,ih]
 | br s a el b en r _ _ ih => simp only [PL.app,ih]
theorem PL.app_assoc (t u v : PL) : (t.app u).app v = t.app (u.app v):=by
 induction t using PL.ind with
 | nil => rfl
 | leaf s r ih => simp only [PL.app,ih]
 | br s a el b en r _ _ ih => simp only [PL.app,ih]
def brF (ks : List DClass) (k : DClass) (f : Nat) (ss : List DStm) (H : List ByteArray) (d kd : Int) : Option (PL × DStm × List DStm):=match listF ks k f ss H d with
 | some (t,el :: r) => if el.kind = kd ∧ unB el = true then some (t,el,r) else none
 | _ => none
def stF (ks : List DClass) (k : DClass) (f : Nat) (s : DStm) (ss : List DStm) (H : List ByteArray) (d : Int) : Option (PL × List DStm) :=
 if 20 < d then none else if unB s = false then none
 else if s.kind = 4 then (if placeI (varsOf k) s.name < 0 then none else match brF ks k f ss (s.name :: H) (d + 1) 5 with
  | none => none
  | some (a,el,r1) => match brF ks k f r1 (s.name :: H) (d + 1) 6 with
   | none => none
   | some (b,en,r2) => some (.br s a el b en .nil,r2))
 else if leafB ks k H s = false then none else some (.leaf s .nil,ss)
def glue (t : PL) (o : Option (PL × List DStm)) : Option (PL × List DStm):=o.map (fun p => (t.app p.1,p.2))
theorem not_un {kd : Int} (x : DStm) (h : ¬ (x.kind = kd ∧ unB x = true)) : x.kind ≠ kd ∨ unB x = false:=by
 cases hu : unB x
 ·exact Or.inr rfl
 ·exact Or.inl (fun e => h ⟨e,hu⟩)
theorem listF_stop (ks : List DClass) (k : DClass) (f : Nat) (s : DStm) (r : List DStm) (H : List ByteArray) (d : Int) (h : s.kind = 5 ∨ s.kind = 6) : listF ks k (f + 1) (s :: r) H d = some (.nil,s :: r):=by rw [listF,if_pos h]
theorem listF_one (ks : List DClass) (k : DClass) (f : Nat) (s : DStm) (ss : List DStm) (H : List ByteArray) (d : Int) (h : ¬ (s.kind = 5 ∨ s.kind = 6)) : listF ks k (f + 1) (s :: ss) H d = match stF ks k f s ss H d with
  | none => none
  | some (i,r) => glue i (listF ks k f r H d):=by
 rw [listF,if_neg h]
 unfold stF
 by_cases h1 : 20 < d
 ·rw [if_pos h1,if_pos h1]
 rw [if_neg h1,if_neg h1]
 by_cases h2 : unB s = false
 ·rw [if_pos h2,if_pos h2]
 rw [if_neg h2,if_neg h2]
 by_cases h4 : s.kind = 4
 ·rw [if_pos h4,if_pos h4]
  by_cases hp : placeI (varsOf k) s.name < 0
  ·rw [if_pos hp,if_pos hp]
  rw [if_neg hp,if_neg hp]
  unfold brF
  cases h5 : listF ks k f ss (s.name :: H) (d + 1) with
  | none => rfl
  | some q =>
   obtain ⟨a,r⟩:=q
   cases r with
   | nil => rfl
   | cons el r1 =>
    simp only
    by_cases he : el.kind = 5 ∧ unB el = true
    ·rw [if_neg (by rw [he.1,he.2]; simp),if_pos he]
     simp only
     cases h6 : listF ks k f r1 (s.name :: H) (d + 1) with
     | none => rfl
     | some q =>
      obtain ⟨b,r⟩:=q
      cases r with
      | nil => rfl
      | cons en r2 =>
       simp only
       by_cases hn : en.kind = 6 ∧ unB en = true
       ·rw [if_neg (by rw [hn.1,hn.2]; simp),if_pos hn]
        simp only
        cases listF ks k f r2 H d with
        | none => rfl
        | some q => rfl
       ·rw [if_neg hn,if_pos (not_un en hn)]
    ·rw [if_neg he,if_pos (not_un el he)]
 ·rw [if_neg h4,if_neg h4]
  cases hl : leafB ks k H s
  ·simp
  ·simp only [Bool.true_eq_false,if_false]
   cases listF ks k f ss H d with
   | none => rfl
   | some q => rfl
def elIf : ElF Tryz.prog (TypeId × Nat) where
 T:=134
 ST:=56
 sz:=1
 byt:=16
 f:=fun x => [.iface x.1 (.pointer (some ⟨x.2,0,none⟩))]
 z:=.nilIface
 hT:=Tryz.underlying56
 hi:=by kernel_rfl
 hz:=rfl
 hf:=fun _ => rfl
 h1:=fun c u hu => by
  simp only [List.mem_cons,List.not_mem_nil,or_false] at hu
  rcases hu with rfl
  rfl
 hsz:=by decide
 hby:=by decide
theorem OwnV.but {P : Program} {α : Type} {E : ElF P α} {S : List Nat} {w w' : World} {base : Nat} {v : Value} {xs : List α} (h : OwnV E w base v xs) (hb : But S w w') (hs : ∀ k,k ∈ S → k < base) : OwnV E w' base v xs:=by
 obtain ⟨h1,h2⟩:=h
 refine ⟨h1,?_⟩
 rcases h2 with h2 | ⟨g,cap,cur,hv,hg,hh,r⟩
 ·exact Or.inl h2
 ·exact Or.inr ⟨g,cap,cur,hv,hg,(hb.block g (Array.getElem?_eq_some_iff.1 hh).1 (fun e => by have:=hs g e; omega)).trans hh,r⟩
theorem ifs_at {w : World} {base : Nat} {v : Value} {xs : List (TypeId × Nat)} (h : OwnV elIf w base v xs) (hn : xs.length ≤ 30000) : SlAt 1 16 RIf 0 w v xs :=
 h.at (E:=elIf) (R:=RIf) (fun x _ => rfl) (by simp [elIf]; omega)
theorem NodesAt.app {X : BD} {P : Nat → Prop} {w : World} : ∀ (t u : PL) (n m : List (TypeId × Nat)),NodesAt X P w t n → NodesAt X P w u m → NodesAt X P w (t.app u) (n ++ m):=by
 intro t
 induction t using PL.ind with
 | nil => intro u n m h1 h2; cases h1; exact h2
 | leaf s r ih =>
  rintro u n m ⟨x,ns',rfl,h2,h3,h4⟩ h5
  exact ⟨x,ns' ++ m,rfl,h2,h3,ih u _ _ h4 h5⟩
 | br s a el b en r _ _ ih =>
  rintro u n m ⟨x,ns',fv,sv,na,nb,rfl,h2,h3,h4,h5,h6,h7,h8,h9⟩ hu
  exact ⟨x,ns' ++ m,fv,sv,na,nb,rfl,h2,h3,h4,h5,h6,h7,h8,ih u _ _ h9 hu⟩
theorem run_append_new {P : Program} {w : World} (base : Nat) (t ty e : TypeId) (i : TypeInfo) (z : Value) (size bytes : Nat) (ht : P.underlying t = some (.slice e)) (hi : P.info? e = some i) (hz : i.zero = some z)
  (hsize : i.size = size) (hby : i.bytes = bytes) (hzs : z.cells.size = size) (hsz : 0 < size)
  (v : Value) (n : Nat) (xs : List Value) (hown : w.ownsRow base e size v n xs)
  (a : Addr) (m c : Nat) (news : List Value) (hl : news.length = m * size) (hnews : ∀ j u,news[j]? = some u → w.cell? (a.add j) = some u) (h1 : ∀ u ∈ news,u.oneCell' = true)
  (h63 : n + m ≤ maxLen) (hbytes : (n + m) * bytes ≤ 140737488355328) (hbase : base ≤ w.heap.size) :
  ∃ v' w',(Builtin.append_ #[t,t] ty #[v,.slice (some a) m c]).run P w = .ok v' w' ∧ w'.ownsRow base e size v' (n + m) (xs ++ news) ∧ w.grownBy w' v.ownBlock ∧ (∀ b,v'.ownBlock = some b → v.ownBlock = some b ∨ w.heap.size ≤ b):=by
 obtain ⟨v',w',hr,h2,h3,_⟩:=run_append_own (P:=P) w base t ty e i z size bytes ht hi hz hsize hby hzs hsz v n xs hown a m c news hl hnews h1 h63 hbytes hbase
 refine ⟨v',w',hr,h2,h3,fun b hb => ?_⟩
 rcases hown.2 with ⟨rfl,rfl⟩ | ⟨g,cap,cur,rfl,hbg,hg,hnc,hcm,hcs,htake⟩
 ·have hown2 : w.ownsRow w.heap.size e size (.slice none 0 0) 0 xs:=⟨hown.1,Or.inl ⟨rfl,rfl⟩⟩
  obtain ⟨v2,w2,hr2,h4,_,_⟩:=run_append_own (P:=P) w w.heap.size t ty e i z size bytes ht hi hz hsize hby hzs hsz _ 0 xs hown2 a m c news hl hnews h1 h63 hbytes (Nat.le_refl _)
  rw [hr] at hr2
  injection hr2 with e1 e2
  subst e1 e2
  exact Or.inr (h4.lt b hb).1
 ·subst hsize
  by_cases hroom : n + m ≤ cap
  ·have hfit : n * i.size + news.length ≤ cur.size:=by rw [hl,hcs,← Nat.add_mul]; exact Nat.mul_le_mul_right _ hroom
   have hr2:=run_append_room (P:=P) w t ty e i ht hi g n cap cur hg a m c news hl hnews h1 hroom hfit
   rw [hr] at hr2
   injection hr2 with e1 e2
   subst e1
   exact Or.inl hb
  ·have holds : ∀ j u,xs[j]? = some u → w.cell? ((⟨g,0,none⟩ : Addr).add j) = some u:=hown.cells (g:=g) rfl
   have hsmall : n + m ≤ 9223372036854775807:=by simp only [maxLen] at h63; omega
   have hr2:=run_append_grow (P:=P) w t ty e i z ht hi hz ⟨g,0,none⟩ n cap xs hown.1 holds a m c news hl hnews (by omega) (by omega) (growslice_fits (by omega) (by rw [hby]; exact hbytes))
   rw [hr] at hr2
   injection hr2 with e1 e2
   subst e1
   simp only [Value.ownBlock,Option.some.injEq] at hb
   exact Or.inr (by omega)
theorem wpList_append_oneN {P : Program} {α : Type} (E : ElF P α) (w : World) {ops : Array Oper} {rest : List Oper} {o : Oper} {a : Act} {Q : Exit → Act → World → Prop} (hgd : o.guard = none) (s x : Operand)
  (ho : o.op = .call { callee:=.builtin .append,args:=#[s,x],argTypes:=#[E.ST,E.ST] })
  (base : Nat) (v : Value) (xs : List α) (hs : a.eval s = v) (hown : OwnV E w base v xs)
  (eb : Nat) (y : α) (hx : a.eval x = .slice (some ⟨eb,0,none⟩) 1 1) (hy : ∀ j u,(E.f y)[j]? = some u → w.cell? ⟨eb,j,none⟩ = some u) (hb : (xs.length + 1) * E.byt ≤ 140737488355328) (hbase : base ≤ w.heap.size)
  (h : ∀ v' w',OwnV E w' base v' (xs ++ [y]) → w.grownBy w' v.ownBlock → (∀ b,v'.ownBlock = some b → v.ownBlock = some b ∨ w.heap.size ≤ b) → wpList P ops Q rest (a.put o.dst v') w') : wpList P ops Q (o :: rest) a w:=by
 obtain ⟨i,hi,hz0,hz1,hz2⟩:=info_parts E.hi
 have hlen : xs.length + 1 ≤ 140737488355328:=Nat.le_trans (Nat.le_mul_of_pos_right _ E.hby) hb
 obtain ⟨v',w',hr,h2,h3,h4⟩:=run_append_new (P:=P) (w:=w) base E.ST o.type E.T i _ E.sz E.byt E.hT hi hz0 hz1 hz2 E.hz E.hsz v xs.length (xs.flatMap E.f) hown ⟨eb,0,none⟩ 1 1 (E.f y) (by rw [E.hf]; omega) (fun j u hu => by rw [Addr.add_lit,Nat.zero_add]; exact hy j u hu) (E.h1 y) (by simp [maxLen]; omega) hb hbase
 refine wpList_plain hgd fun K hK => ?_
 unfold Oper.wp execOp
 simp only [ho,resolve,invoke,builtin,Sem.run_bind,Sem.run_pure,Result.andThen_ok,List.map_toArray,List.map_cons,List.map_nil,hs,hx,hr]
 refine hK _ _ (h v' w' ?_ h3 h4)
 unfold OwnV
 rw [List.length_append,List.flatMap_append]
 simpa using h2
abbrev BSt (X : BD) : List Nat:=[X.bb,X.hb,X.gb]
theorem BE.inS {X : BD} (hE : BE X) : ∀ k,k ∈ BSt X → X.W0.heap.size ≤ k ∧ k < X.lo:=fun k hk => by
 simp only [BSt,List.mem_cons,List.not_mem_nil,or_false] at hk
 rcases hk with rfl | rfl | rfl
 ·exact hE.nb
 ·exact hE.nh
 ·exact hE.ng
def LsPost (X : BD) (H : List ByteArray) (w : World) (o : Option (PL × List DStm)) (e : Ending) (w' : World) : Prop:=match o with
 | none => e = .returned (.tuple #[.slice none 0 0,.bool false]) ∧ Below X.W0.heap.size X.W0 w'
 | some (t,rest) => ∃ v nodes,e = .returned (.tuple #[v,.bool true]) ∧ (SlAt 1 16 RIf 0 w' v nodes ∧ ∀ b,v.ownBlock = some b → New w.heap.size w'.heap.size b) ∧ NodesAt X (New w.heap.size w'.heap.size) w' t nodes ∧ BS X w' H (X.k.body.length - rest.length) ∧ But (BSt X) w w' ∧ rest = X.k.body.drop (X.k.body.length - rest.length)
def ListDoes (X : BD) (f : Nat) : Prop:=∀ (H : List ByteArray) (nx : Nat) (d : Int) (w : World),BS X w H nx → X.k.body.length - nx < f → 0 ≤ d → d ≤ 21 → (H.length : Int) ≤ d →
 Calls Tryz.prog 104 #[.pointer (some ⟨X.bb,0,none⟩),.int .i64 d] w (LsPost X H w (listF X.ks X.k f (X.k.body.drop nx) H d))
def BrPost (X : BD) (H : List ByteArray) (w : World) (o : Option (PL × DStm × List DStm)) (e : Ending) (w' : World) : Prop:=match o with
 | none => (∃ v,e = .returned (.tuple #[v,.bool false])) ∧ Below X.W0.heap.size X.W0 w'
 | some (t,_,rest) => ∃ v nodes,e = .returned (.tuple #[v,.bool true]) ∧ (SlAt 1 16 RIf 0 w' v nodes ∧ ∀ b,v.ownBlock = some b → New w.heap.size w'.heap.size b) ∧ NodesAt X (New w.heap.size w'.heap.size) w' t nodes ∧ BS X w' H (X.k.body.length - rest.length) ∧ But (BSt X) w w' ∧ rest = X.k.body.drop (X.k.body.length - rest.length)
def StPost (X : BD) (H : List ByteArray) (w : World) (o : Option (PL × List DStm)) (e : Ending) (w' : World) : Prop:=match o with
 | none => e = .returned .nilIface ∧ Below X.W0.heap.size X.W0 w'
 | some (i,rest) => ∃ x : TypeId × Nat,e = .returned (.iface x.1 (.pointer (some ⟨x.2,0,none⟩))) ∧ NodesAt X (New w.heap.size w'.heap.size) w' i [x] ∧ BS X w' H (X.k.body.length - rest.length) ∧ But (BSt X) w w' ∧ rest = X.k.body.drop (X.k.body.length - rest.length)
theorem LPost.st {X : BD} (hE : BE X) {H : List ByteArray} {nx : Nat} {w w' : World} {s : DStm} {ok : Bool} {e : Ending} (h : LPost X H nx w s ok e w') (hlo : X.lo ≤ w.heap.size) (hnx : nx ≤ X.k.body.length) {f : Nat} {d : Int} (hs : stF X.ks X.k f s (X.k.body.drop nx) H d = if ok = false then none else some (.leaf s .nil,X.k.body.drop nx)) : StPost X H w (stF X.ks X.k f s (X.k.body.drop nx) H d) e w':=by
 obtain ⟨h1,h2,h3,h4⟩:=h
 rw [hs]
 cases ok
 ·rw [if_pos rfl]
  exact ⟨h2 rfl,h4.old⟩
 ·rw [if_neg (by decide)]
  obtain ⟨x,hx1,hx2,hx3⟩:=h1 rfl
  have hl : X.k.body.length - (X.k.body.drop nx).length = nx:=by rw [List.length_drop]; omega
  refine ⟨x,hx1,⟨x,[],rfl,hx2,hx3,rfl⟩,by rw [hl]; exact h4,h3.mono (fun k hk => Or.inl (by rw [List.mem_singleton] at hk; subst hk; simp [BSt])),by rw [hl]⟩
theorem BS.move {X : BD} (hE : BE X) {w : World} {H : List ByteArray} {nx : Nat} (h : BS X w H nx) (hn : nx < X.k.body.length) : BS X (w.setCell ⟨X.bb,1,none⟩ (.int .i64 ((nx : Int) + 1))) H (nx + 1) ∧ GS X (w.setCell ⟨X.bb,1,none⟩ (.int .i64 ((nx : Int) + 1))) (nx + 1) ∧ But (BSt X) w (w.setCell ⟨X.bb,1,none⟩ (.int .i64 ((nx : Int) + 1))):=by
 obtain ⟨gv,g1,g2,g3⟩:=h.gl
 have hb : But (BSt X) w (w.setCell ⟨X.bb,1,none⟩ (.int .i64 ((nx : Int) + 1))):=(But.refl _ _).setIn (by simp [BSt]) _
 have hbl:=h.bl.set 1 (.int .i64 ((nx : Int) + 1))
 have e : (bCells X nx).setIfInBounds 1 (.int .i64 ((nx : Int) + 1)) = bCells X (nx + 1):=rfl
 rw [e] at hbl
 have hg3:=g3.other (p:=⟨X.bb,1,none⟩) (Ne.symm hE.bg) (.int .i64 ((nx : Int) + 1))
 exact ⟨⟨h.old.trans (hb.below _ h.old.size (fun k hk => (hE.inS k hk).1)),Nat.le_trans h.lo hb.size,hn,hbl,h.hl.other (Ne.symm hE.bh) _,gv,g1,(fun x hx => by have:=g2 x hx; omega),hg3⟩,⟨gv,g1,(fun x hx => by have:=g2 x hx; omega),hg3⟩,hb⟩
set_option maxRecDepth 20000 in
set_option maxHeartbeats 2000000 in
theorem branch_ok (X : BD) (hE : BE X) (f : Nat) (hL : ListDoes X f) (H : List ByteArray) (nx : Nat) (d kd : Int) (w : World) (hS : BS X w H nx) (hf : X.k.body.length - nx < f) (hd : 0 ≤ d) (hd2 : d ≤ 21) (hH : (H.length : Int) ≤ d) :
  Calls Tryz.prog 149 #[.pointer (some ⟨X.bb,0,none⟩),.int .i64 d,.int .i64 kd] w (BrPost X H w (brF X.ks X.k f (X.k.body.drop nx) H d kd)):=by
 have HL:=hide (hL H nx d w hS hf hd hd2 hH)
 have HB : Hid (brF X.ks X.k f (X.k.body.drop nx) H d kd = match listF X.ks X.k f (X.k.body.drop nx) H d with
  | some (t,el :: r) => if el.kind = kd ∧ unB el = true then some (t,el,r) else none
  | _ => none):=rfl
 generalize brF X.ks X.k f (X.k.body.drop nx) H d kd = R at *
 generalize listF X.ks X.k f (X.k.body.drop nx) H d = o at *
 have HE:=hide hE
 have HLO:=hide hS.lo
 clear hS hL hf hH
 cases o with
 | none =>
  have e : R = none:=uh HB
  subst e
  clear HB
  go_enter Tryz.func149,Tryz.ntmps149
  go_wp2_with fail
  refine (uh HL).mono ?_
  rintro e w1 ⟨rfl,hb1⟩
  have HB1:=hide hb1
  clear hb1
  go_wp2_with fail
  go_quiet ((fail))
  go_wp2
  go_ret2
  exact ⟨⟨_,rfl⟩,below_drewN (uh HB1) _⟩
 | some q =>
  obtain ⟨t,rest⟩:=q
  cases rest with
  | nil =>
   have e : R = none:=uh HB
   subst e
   clear HB
   go_enter Tryz.func149,Tryz.ntmps149
   go_wp2_with fail
   refine (uh HL).mono ?_
   rintro e w1 ⟨v,nodes,rfl,⟨hv,_⟩,hn,hbs,hbt,_⟩
   have HB1:=hide hbs.old
   rw [List.length_nil,Nat.sub_zero] at hbs
   obtain ⟨b0,b1,b2,b3,p0,p1,p2,c1,c4,c6⟩:=hbs.cells (uh HE)
   obtain ⟨ba,bc,hba⟩:=(uh HE).cls.body.shape
   have hbl:=(uh HE).bl
   rw [hba] at c6
   obtain ⟨va,vc,rfl⟩:=hv.shape
   have e1 : ((X.k.body.length : Int) == (X.k.body.length : Int)) = true:=by simp
   clear hbs hbt hn hv hba b2 b3 p1 p2 c1 c4
   go_wp2_with fail
   go_quiet ((fail))
   go_wp2
   go_ret2
   exact ⟨⟨_,rfl⟩,below_drewN (uh HB1) _⟩
  | cons el r1 =>
   have HB2 : Hid (R = if el.kind = kd ∧ unB el = true then some (t,el,r1) else none):=uh HB
   clear HB
   go_enter Tryz.func149,Tryz.ntmps149
   go_wp2_with fail
   refine (uh HL).mono ?_
   rintro e w1 ⟨v,nodes,rfl,⟨hv,hvb⟩,hn,hbs,hbt,hrest⟩
   have HVB:=hide hvb
   clear hvb
   obtain ⟨va,vc,rfl⟩:=hv.shape
   have hnodes:=hv.lenI
   have hbl:=(uh HE).bl
   have hne : (el :: r1).length ≤ X.k.body.length:=by
    have:=congrArg List.length hrest
    rw [List.length_drop] at this
    omega
   rw [List.length_cons] at hne hrest hbs
   have hm : X.k.body.length - (r1.length + 1) < X.k.body.length:=by omega
   have hr : X.k.body.drop (X.k.body.length - (r1.length + 1)) = X.k.body[X.k.body.length - (r1.length + 1)] :: X.k.body.drop (X.k.body.length - (r1.length + 1) + 1):=List.drop_eq_getElem_cons hm
   rw [hr,List.cons.injEq] at hrest
   obtain ⟨hel,hr1⟩:=hrest
   have hm2 : X.k.body.length - (r1.length + 1) + 1 = X.k.body.length - r1.length:=by omega
   rw [hm2] at hr1
   obtain ⟨sb,so0,ov,cv,av,⟨bn,bc,hba⟩,hSA⟩:=body_at (uh HE).cls.body _ hm
   rw [← hel] at hSA
   have hbn : bn = X.k.body.length:=by
    obtain ⟨_,_,h9⟩:=(uh HE).cls.body.shape
    rw [hba] at h9
    simp only [Value.slice.injEq] at h9
    exact h9.2.1
   subst hbn
   generalize hmm : X.k.body.length - (r1.length + 1) = m at *
   obtain ⟨b0,b1,b2,b3,p0,p1,p2,c1,c4,c6⟩:=hbs.cells (uh HE)
   rw [hba] at c6
   have HBS:=hide hbs
   have HBT:=hide hbt
   have HV:=hide hv
   have HN:=hide hn
   have HR1:=hide hr1
   have HM2:=hide hm2
   have HSA:=hide hSA
   have HBA:=hide hba
   have hmI : ((m : Int) == (X.k.body.length : Int)) = false:=by rw [beq_eq_false_iff_ne]; omega
   have hmN : (m == X.k.body.length) = false:=by rw [beq_eq_false_iff_ne]; omega
   have hmL : (m : Int) < (X.k.body.length : Int):=by omega
   clear hbs hbt hv hn hr1 hm2 hSA hel hr hba hmm
   clear b2 b3 p1 p2 c1 c4
   go_wp2_with fail
   go_quiet ((fail))
   have HK2 : Hid (Below w1.heap.size w1 (w1.drewN nq)):=below_dn _ _
   have HBS2:=hide ((uh HBS).stays (uh HK2))
   generalize w1.drewN nq = w2 at *
   obtain ⟨b0',b1',b2,b3,p0',p1,p2,c1,c4,c6'⟩:=(uh HBS2).cells (uh HE)
   rw [uh HBA] at c6'
   clear b0 b1 p0 c6 b2 b3 p1 p2 c1 c4
   go_wp2_with fail
   go_quiet ((fail))
   have HK3 : Hid (Below w1.heap.size w1 (w2.drewN nq)):=below_drewN (uh HK2) _
   have HBS3:=hide ((uh HBS).stays (uh HK3))
   generalize w2.drewN nq = w3 at *
   have b1:=((uh HBS3).cells (uh HE)).b1
   have bz:=(uh HBS3).bl.free 1
   obtain ⟨m1,m2,m3⟩:=(uh HBS3).move (uh HE) (show m < X.k.body.length by omega)
   have HM1:=hide m1
   have HBT4 : Hid (But (BSt X) w (w3.setCell ⟨X.bb,1,none⟩ (.int .i64 ((m : Int) + 1)))):=(uh HBT).trans ((But.of_below (uh HK3)).trans m3)
   have HKP : Hid (KeptP (New w.heap.size w1.heap.size) w1 (w3.setCell ⟨X.bb,1,none⟩ (.int .i64 ((m : Int) + 1)))):=(KeptP.of_below (uh HK3)).trans (m3.keptP (fun k hk h => by have:=((uh HE).inS k hk).2; have:=h.1; have:=uh HLO; omega))
   have k0:=((uh HSA).stays rfl (m1.oldm (uh HE))).c0
   have HUE:=hide (unusedEmpty_ok el sb (so0 + m * 6) ov cv av _ ((uh HSA).stays rfl (m1.oldm (uh HE))))
   have HUW : Hid (∀ w',Below (w3.setCell ⟨X.bb,1,none⟩ (.int .i64 ((m : Int) + 1))).heap.size (w3.setCell ⟨X.bb,1,none⟩ (.int .i64 ((m : Int) + 1))) w' → Below X.W0.heap.size X.W0 w'):=fun w' hb => ((uh HM1).stays hb).old
   clear b0' b1' p0' c6' m1 m2 m3
   by_cases hkd : el.kind = kd
   case neg =>
    have HF : Hid (R = none):=(uh HB2).trans (if_neg (fun h => hkd h.1))
    have ek : (el.kind == kd) = false:=by rw [beq_eq_false_iff_ne]; exact hkd
    clear HB2 hkd
    go_wp2
    go_ret2
    rw [uh HF]
    exact ⟨⟨_,rfl⟩,(uh HM1).old⟩
   subst hkd
   cases hu : unB el
   ·have HF : Hid (R = none):=(uh HB2).trans (if_neg (fun h => by rw [hu] at h; cases h.2))
    rw [hu] at HUE
    clear HB2 hu
    go_wp2_with fail
    refine (uh HUE).mono ?_
    rintro e w5 ⟨rfl,hb5⟩
    have HB5:=hide hb5
    clear hb5
    go_wp2
    go_ret2
    rw [uh HF]
    exact ⟨⟨_,rfl⟩,uh HUW _ (uh HB5)⟩
   ·have HF : Hid (R = some (t,el,r1)):=(uh HB2).trans (if_pos ⟨rfl,hu⟩)
    rw [hu] at HUE
    clear HB2 hu
    go_wp2_with fail
    refine (uh HUE).mono ?_
    rintro e w5 ⟨rfl,hb5⟩
    have HB5:=hide hb5
    clear hb5
    go_wp2
    go_ret2
    rw [uh HF]
    have hk5:=(uh HKP).trans (KeptP.of_below (uh HB5))
    have hw5 : ∀ b,New w.heap.size w1.heap.size b → New w.heap.size w5.heap.size b:=fun b h => ⟨h.1,Nat.lt_of_lt_of_le h.2 hk5.1⟩
    refine ⟨_,nodes,rfl,⟨(uh HV).keptP RIf_any hk5 (uh HVB),fun b hb => hw5 b (uh HVB b hb)⟩,NodesAt.mono hw5 _ _ (NodesAt.keptP hk5 _ _ (uh HN)),?_,(uh HBT4).trans (But.of_below (uh HB5)),uh HR1⟩
    rw [← uh HM2]
    exact (uh HM1).stays (uh HB5)
end Go.Proofs.YtjjldnkhadakcaaGreat
