import Derived.Test.YtajabbnlbopcbaaGreatDoorPGI
namespace Go.Proofs.YtajabbnlbopcbaaGreatDoor
open Go.RowKit
set_option linter.unusedSimpArgs false
set_option linter.unusedVariables false
section
variable {ts : List TK} {W0 : World} {q : Nat} {tv iv iv' : Value} {W1 w : World} {L : List Pc} {xs : List DItem}
theorem port_one {vs : List DVar} (hv : ∀ v ∈ vs,okW v ∧ v.clock = []) : ∀ z ∈ vsZ vs,∀ X m M,(m = fx Ksem ∨ m = fx Kcl) → Pz ts W0 q tv X (z.1 ++ m :: M) → Calls Tryz.prog 76 #[.pointer (some ⟨q,0,none⟩)] X (VPost ts W0 q tv X (m :: M) z.2):=by
 intro z hz X m M _ hp
 obtain ⟨v,hv9,rfl⟩:=List.mem_map.1 hz
 obtain ⟨h1,h2⟩:=hv v hv9
 refine port_ok (plain_parts h1.1).1.2 h1.2.1 h2 ?_
 have h9:=hp
 unfold dlK at h9
 simp only [h2,List.flatMap_nil,List.cons_append,List.nil_append] at h9
 exact h9
theorem local_one {vs : List DVar} (hv : ∀ v ∈ vs,okW v) : ∀ z ∈ vsZ vs,∀ X M,Pz ts W0 q tv X (z.1 ++ fx Ksem :: M) → Calls Tryz.prog 79 #[.pointer (some ⟨q,0,none⟩)] X (VPost ts W0 q tv X (fx Ksem :: M) z.2):=by
 intro z hz X M hp
 obtain ⟨v,hv9,rfl⟩:=List.mem_map.1 hz
 exact local_ok (hv v hv9) (by decide) (by decide) hp
theorem eq_one {es : List PEq} (he : ∀ e ∈ es,okQ e) : ∀ z ∈ esZ es,∀ X M,Pz ts W0 q tv X (z.1 ++ fx Ksem :: M) → Calls Tryz.prog 81 #[.pointer (some ⟨q,0,none⟩)] X (EPost ts W0 q tv X (fx Ksem :: M) z.2):=by
 intro z hz X M hp
 obtain ⟨e,he9,rfl⟩:=List.mem_map.1 hz
 have hp2 : Pz ts W0 q tv X (eqK e ++ M):=by rw [eqK_eq]; simpa using hp
 by_cases hc : e.call.size = 0
 ·exact equation_code (he e he9) hc hp2
 ·exact equation_call (he e he9) hc hp2
theorem var_fst {vs : List DVar} (hv : ∀ v ∈ vs,okW v) : ∀ z ∈ vsZ vs,∃ a T,z.1 = a :: T ∧ ¬ a.text = Klet:=by
 intro z hz
 obtain ⟨v,hv9,rfl⟩:=List.mem_map.1 hz
 exact ⟨nmP v.name,_,rfl,kw_ne (hv v hv9).1 wKlet⟩
theorem eq_fst {es : List PEq} (he : ∀ e ∈ es,okQ e) : ∀ z ∈ esZ es,∃ a T,z.1 = a :: T ∧ ¬ a.text = Ktel:=by
 intro z hz
 obtain ⟨e,he9,rfl⟩:=List.mem_map.1 hz
 obtain ⟨_,⟨hl,_⟩,hp,_⟩:=he e he9
 obtain ⟨lhs,call,exs⟩:=e
 cases lhs with
 | nil => simp at hl
 | cons s ss =>
  refine ⟨nmP s,(ss.map (fun s => [nmP s])).flatMap (fun y => fx Kcom :: y) ++ (fx Keq :: rhK ⟨s :: ss,call,exs⟩),?_,kw_ne (hp s (by simp)) wKtel⟩
  show nmsK (s :: ss) ++ _ = _
  unfold nmsK
  rw [List.map_cons,jn_flat]
  rfl
theorem vsZ_snd (vs : List DVar) : (vsZ vs).map (·.2) = vs:=by
 unfold vsZ
 rw [List.map_map]
 exact List.map_id vs
theorem esZ_snd (es : List PEq) : (esZ es).map (·.2) = es.map PEq.eq:=by
 unfold esZ
 rw [List.map_map]
 rfl
theorem Nk.done {b1 m1 m2 m3 m4 : Nat} {X : World} {nm : ByteArray} {x1 x2 x3 : List DVar} {x4 : List DEq} {a1 a2 a3 a4 : Option Addr} {n1 n2 n3 n4 c1 c2 c3 c4 : Nat} (h : Nk ts W0 q tv w b1 X nm (.slice a1 n1 c1) (.slice a2 n2 c2) (.slice a3 n3 c3) (.slice a4 n4 c4) x1 x2 x3 x4 m1 m2 m3 m4 L) (hn : nm.size ≤ 40) :
  X.cell? ⟨b1,0,none⟩ = some (.string nm) ∧ X.cell? ⟨b1,1,none⟩ = some (.slice a1 n1 c1) ∧ X.cell? ⟨b1,2,none⟩ = some (.slice a2 n2 c2) ∧ X.cell? ⟨b1,3,none⟩ = some (.slice a3 n3 c3) ∧ X.cell? ⟨b1,4,none⟩ = some (.slice a4 n4 c4) ∧ X.cell? ⟨w.heap.size,0,none⟩ = some (.string ⟨#[]⟩) ∧ X.cell? ⟨w.heap.size,1,none⟩ = some (.slice none 0 0) ∧ X.cell? ⟨w.heap.size,2,none⟩ = some (.slice none 0 0) ∧ X.cell? ⟨w.heap.size,3,none⟩ = some (.slice none 0 0) ∧ X.cell? ⟨w.heap.size,4,none⟩ = some (.slice none 0 0) ∧ X.frozen? ⟨w.heap.size,0,none⟩ = false ∧ X.frozen? ⟨w.heap.size,1,none⟩ = false ∧ X.frozen? ⟨w.heap.size,2,none⟩ = false ∧ X.frozen? ⟨w.heap.size,3,none⟩ = false ∧ X.frozen? ⟨w.heap.size,4,none⟩ = false ∧ w.heap.size < X.heap.size ∧ (((((X.setCell ⟨w.heap.size,0,none⟩ (.string nm)).setCell ⟨w.heap.size,1,none⟩ (.slice a1 n1 c1)).setCell ⟨w.heap.size,2,none⟩ (.slice a2 n2 c2)).setCell ⟨w.heap.size,3,none⟩ (.slice a3 n3 c3)).setCell ⟨w.heap.size,4,none⟩ (.slice a4 n4 c4)).cell? ⟨w.heap.size,0,none⟩ = some (.string nm) ∧ (((((X.setCell ⟨w.heap.size,0,none⟩ (.string nm)).setCell ⟨w.heap.size,1,none⟩ (.slice a1 n1 c1)).setCell ⟨w.heap.size,2,none⟩ (.slice a2 n2 c2)).setCell ⟨w.heap.size,3,none⟩ (.slice a3 n3 c3)).setCell ⟨w.heap.size,4,none⟩ (.slice a4 n4 c4)).cell? ⟨w.heap.size,1,none⟩ = some (.slice a1 n1 c1) ∧ (((((X.setCell ⟨w.heap.size,0,none⟩ (.string nm)).setCell ⟨w.heap.size,1,none⟩ (.slice a1 n1 c1)).setCell ⟨w.heap.size,2,none⟩ (.slice a2 n2 c2)).setCell ⟨w.heap.size,3,none⟩ (.slice a3 n3 c3)).setCell ⟨w.heap.size,4,none⟩ (.slice a4 n4 c4)).cell? ⟨w.heap.size,2,none⟩ = some (.slice a2 n2 c2) ∧ (((((X.setCell ⟨w.heap.size,0,none⟩ (.string nm)).setCell ⟨w.heap.size,1,none⟩ (.slice a1 n1 c1)).setCell ⟨w.heap.size,2,none⟩ (.slice a2 n2 c2)).setCell ⟨w.heap.size,3,none⟩ (.slice a3 n3 c3)).setCell ⟨w.heap.size,4,none⟩ (.slice a4 n4 c4)).cell? ⟨w.heap.size,3,none⟩ = some (.slice a3 n3 c3) ∧ (((((X.setCell ⟨w.heap.size,0,none⟩ (.string nm)).setCell ⟨w.heap.size,1,none⟩ (.slice a1 n1 c1)).setCell ⟨w.heap.size,2,none⟩ (.slice a2 n2 c2)).setCell ⟨w.heap.size,3,none⟩ (.slice a3 n3 c3)).setCell ⟨w.heap.size,4,none⟩ (.slice a4 n4 c4)).cell? ⟨w.heap.size,4,none⟩ = some (.slice a4 n4 c4) ∧ Hid (NPost ts W0 q tv w L ⟨nm,x1,x2,x3,x4⟩ (.returned (.agg #[.string nm,.slice a1 n1 c1,.slice a2 n2 c2,.slice a3 n3 c3,.slice a4 n4 c4])) (((((X.setCell ⟨w.heap.size,0,none⟩ (.string nm)).setCell ⟨w.heap.size,1,none⟩ (.slice a1 n1 c1)).setCell ⟨w.heap.size,2,none⟩ (.slice a2 n2 c2)).setCell ⟨w.heap.size,3,none⟩ (.slice a3 n3 c3)).setCell ⟨w.heap.size,4,none⟩ (.slice a4 n4 c4))):=by
 have hr:=h.res.set5 (x:=.string nm) (y:=.slice a1 n1 c1) (z:=.slice a2 n2 c2) (u:=.slice a3 n3 c3) (t:=.slice a4 n4 c4)
 exact ⟨h.box.cell (i:=0) (v:=.string nm) rfl,h.box.cell (i:=1) (v:=.slice a1 n1 c1) rfl,h.box.cell (i:=2) (v:=.slice a2 n2 c2) rfl,h.box.cell (i:=3) (v:=.slice a3 n3 c3) rfl,h.box.cell (i:=4) (v:=.slice a4 n4 c4) rfl,h.res.cell (i:=0) (v:=.string ⟨#[]⟩) rfl,h.res.cell (i:=1) (v:=.slice none 0 0) rfl,h.res.cell (i:=2) (v:=.slice none 0 0) rfl,h.res.cell (i:=3) (v:=.slice none 0 0) rfl,h.res.cell (i:=4) (v:=.slice none 0 0) rfl,h.res.free 0,h.res.free 1,h.res.free 2,h.res.free 3,h.res.free 4,h.res.lt,hr.cell (i:=0) (v:=.string nm) rfl,hr.cell (i:=1) (v:=.slice a1 n1 c1) rfl,hr.cell (i:=2) (v:=.slice a2 n2 c2) rfl,hr.cell (i:=3) (v:=.slice a3 n3 c3) rfl,hr.cell (i:=4) (v:=.slice a4 n4 c4) rfl,hide (h.fin hn)⟩
set_option maxHeartbeats 16000000 in
theorem node_ok {n : PNode} (hn : okNd n) (h : Pz ts W0 q tv w (ndK n ++ L)) : Calls Tryz.prog 47 #[.pointer (some ⟨q,0,none⟩)] w (NPost ts W0 q tv w L n.node):=by
 obtain ⟨nm,ins,outs,vars,eqs⟩:=n
 obtain ⟨h1,h2,h3,h4,h5,h6,h7,h8,h9⟩:=hn
 simp only at h1 h2 h3 h4 h5 h6 h7 h8 h9
 have hql:=h.lt
 have hsz:=(plain_parts h1).1.2
 obtain ⟨A,hAA⟩ : ∃ A,A = w.alloc (.cells #[.string ⟨#[]⟩,.slice none 0 0,.slice none 0 0,.slice none 0 0,.slice none 0 0] 43):=⟨_,rfl⟩
 have hA : Below w.heap.size w A:=hAA ▸ (Below.refl _ _).alloc (Nat.le_refl _) _
 have HR0 : Hid (BlkAt A w.heap.size 43 #[.string ⟨#[]⟩,.slice none 0 0,.slice none 0 0,.slice none 0 0,.slice none 0 0]):=hAA ▸ blk_box w _ _
 have hne : w.heap.size ≠ q:=by omega
 have HP0 : Hid (Pz ts W0 q tv A (fx Knode :: nmP nm :: fx Kop :: (dlsK ins ++ (fx Kcl :: fx Kret :: fx Kop :: (dlsK outs ++ (fx Kcl :: (vrK ⟨nm,ins,outs,vars,eqs⟩ ++ (fx Klet :: ((esZ eqs).flatMap (fun z => z.1 ++ [fx Ksem]) ++ fx Ktel :: L))))))))):=by
  have g:=h.below hA
  unfold ndK at g
  simp only [List.cons_append,List.append_assoc,List.nil_append] at g
  have e : (esZ eqs).flatMap (fun z => z.1 ++ [fx Ksem]) = eqs.flatMap eqK:=by
   unfold esZ
   rw [List.flatMap_map]
   congr 1
   funext e
   exact (eqK_eq e).symm
  rw [e]
  exact g
 have HT0:=hide (Tr.of_below (r:=q) hA)
 obtain ⟨PO,hPO⟩ : ∃ PO : Ending → World → Prop,PO = NPost ts W0 q tv w L (PNode.node ⟨nm,ins,outs,vars,eqs⟩):=⟨_,rfl⟩
 rw [← hPO]
 have HPO : Hid (PO = NPost ts W0 q tv w L ⟨nm,ins,outs,vars,eqs.map PEq.eq⟩):=hPO
 have HAA:=hide hAA
 clear h hA hPO hAA
 go_enter Tryz.func47,Tryz.ntmps47
 have HC:=hide (pz_want (uh HP0) (W:=Knode) rfl)
 go_wp2_with fail
 rw [← uh HAA]
 refine (uh HC).mono ?_
 rintro e w1 ⟨rfl,hp1,ht1⟩
 have HT1:=hide ((uh HT0).trans ht1)
 have HR1:=hide (ht1.blk (uh HR0) hne)
 have HN:=hide (pz_name hp1 hsz)
 clear hp1 ht1 HC HT0 HR0 HP0 HAA
 go_wp2_with fail
 refine (uh HN).mono ?_
 rintro e w2 ⟨rfl,hp2,ht2⟩
 obtain ⟨B,hBB⟩ : ∃ B,B = w2.alloc (.cells #[.string nm,.slice none 0 0,.slice none 0 0,.slice none 0 0,.slice none 0 0] 43):=⟨_,rfl⟩
 have hB : Below w2.heap.size w2 B:=hBB ▸ (Below.refl _ _).alloc (Nat.le_refl _) _
 have hlw : w.heap.size < w2.heap.size:=by have:=(uh HR1).lt; have:=ht2.size; omega
 have HNK : Hid (Nk ts W0 q tv w w2.heap.size B nm (.slice none 0 0) (.slice none 0 0) (.slice none 0 0) (.slice none 0 0) [] [] [] [] (w2.heap.size + 1) (w2.heap.size + 1) (w2.heap.size + 1) (w2.heap.size + 1) (fx Kop :: (dlsK ins ++ (fx Kcl :: fx Kret :: fx Kop :: (dlsK outs ++ (fx Kcl :: (vrK ⟨nm,ins,outs,vars,eqs⟩ ++ (fx Klet :: ((esZ eqs).flatMap (fun z => z.1 ++ [fx Ksem]) ++ fx Ktel :: L)))))))))  :=
  ⟨hp2.below hB,((uh HT1).trans ht2).trans (Tr.of_below hB),(ht2.blk (uh HR1) hne).below hB (by omega),hBB ▸ blk_box w2 _ _,hql,hlw,fin_nilV _ _ _,fin_nilV _ _ _,fin_nilV _ _ _,fin_nilE _ _ _,Nat.le_refl _,Nat.le_refl _,Nat.le_refl _,Nat.le_refl _,by rw [hBB]; simp⟩
 have HC:=hide (pz_want (uh HNK).pz (W:=Kop) rfl)
 have HBB:=hide hBB
 clear hp2 ht2 hB hBB HN HT1 HR1
 go_wp2_with fail
 rw [← uh HBB]
 refine (uh HC).mono ?_
 rintro e w3 ⟨rfl,hp,ht⟩
 replace HNK:=hide ((uh HNK).go hp ht)
 clear hp ht HC HBB
 have hsepV : ∀ (Z : World) (vs : List DVar),(∀ v ∈ vs,okW v ∧ v.clock = []) → vs.length ≤ 500 → ∀ v0 r,vs = v0 :: r → ∀ M,Pz ts W0 q tv Z (dlsK vs ++ fx Kcl :: M) → Calls Tryz.prog 75 #[.pointer (some ⟨q,0,none⟩),.string Ksem,.func (.func 76) #[.pointer (some ⟨q,0,none⟩)] #[]] Z (fun e w' => ∃ a n c,e = .returned (.slice a n c) ∧ MkR rVar TVar Z.heap.size w' (.slice a n c) vs ∧ Pz ts W0 q tv w' (fx Kcl :: M) ∧ Tr q Z w'):=by
  rintro Z vs hv hl v0 r rfl M hp
  have h9:=sepVar (w:=Z) (sign:=Ksem) (t:=fx Kcl) (L:=M) (dlK v0,v0) (vsZ r) (fun z hz => port_one hv z hz) (by
   have g:=hp
   unfold dlsK at g
   rw [List.map_cons,jn_flat,List.append_assoc] at g
   unfold vsZ
   rw [List.flatMap_map]
   rw [List.flatMap_map] at g
   exact g) (by decide) (by unfold vsZ; simp at hl ⊢; omega)
  rw [vsZ_snd] at h9
  exact h9
 have HSEP:=hide hsepV
 clear hsepV
 have hins : ins = [] ∨ ∃ v0 r,ins = v0 :: r:=by cases ins with
  | nil => exact Or.inl rfl
  | cons a b => exact Or.inr ⟨a,b,rfl⟩
 have HVARS : Hid (vars = [] ∨ ¬ vars = []):=by cases vars with
  | nil => exact Or.inl rfl
  | cons a b => exact Or.inr (by simp)
 have HI:=hide h2
 have HO:=hide h3
 have HV:=hide h4
 have HQ:=hide h5
 have hli : ins.length ≤ 500:=by omega
 have hlo : outs.length ≤ 500:=by omega
 have hlv : vars.length ≤ 500:=by omega
 have HOUT : Hid (∃ v0 r,outs = v0 :: r):=by cases outs with
  | nil => simp at h6
  | cons a b => exact ⟨a,b,rfl⟩
 have HEL:=hide (And.intro h8 h9)
 clear h1 h2 h3 h4 h5 h6 h7 h8 h9
 rcases hins with hin | ⟨v0,r0,hin⟩
 have HC : Hid (Calls Tryz.prog 74 #[.pointer (some ⟨q,0,none⟩),.string Kcl] w3 (PzAns ts W0 q tv w3 (.bool true) (dlsK ins ++ (fx Kcl :: fx Kret :: fx Kop :: (dlsK outs ++ (fx Kcl :: (vrK ⟨nm,ins,outs,vars,eqs⟩ ++ (fx Klet :: ((esZ eqs).flatMap (fun z => z.1 ++ [fx Ksem]) ++ fx Ktel :: L))))))))):=by
  have g:=(uh HNK).pz
  subst hin
  exact pz_sees g Kcl
 go_wp2_with fail
 refine (uh HC).mono ?_
 rintro e w4 ⟨rfl,hp,ht⟩
 replace HNK:=hide ((uh HNK).go hp ht)
 clear hp ht HC
 subst hin
 clear hli
 rotate_left
 have HC : Hid (Calls Tryz.prog 74 #[.pointer (some ⟨q,0,none⟩),.string Kcl] w3 (PzAns ts W0 q tv w3 (.bool false) (dlsK ins ++ (fx Kcl :: fx Kret :: fx Kop :: (dlsK outs ++ (fx Kcl :: (vrK ⟨nm,ins,outs,vars,eqs⟩ ++ (fx Klet :: ((esZ eqs).flatMap (fun z => z.1 ++ [fx Ksem]) ++ fx Ktel :: L))))))))):=by
  have g:=(uh HNK).pz
  have hv:=(uh HI v0 (by rw [hin]; simp)).1.1
  rw [hin] at g ⊢
  unfold dlsK at g ⊢
  rw [List.map_cons,jn_flat] at g ⊢
  have g2:=pz_sees g Kcl
  have e9 : decide ((nmP v0.name).text = Kcl) = false:=decide_eq_false (kw_ne hv wKcl)
  rw [e9] at g2
  exact g2
 go_wp2_with fail
 refine (uh HC).mono ?_
 rintro e w4 ⟨rfl,hp,ht⟩
 replace HNK:=hide ((uh HNK).go hp ht)
 clear hp ht HC
 have HC:=hide (uh HSEP _ ins (uh HI) hli v0 r0 hin _ (uh HNK).pz)
 clear hin
 go_wp2_with fail
 refine (uh HC).mono ?_
 rintro e w5 ⟨ai,ni,ci,rfl,hm,hp,ht⟩
 have hK2:=(uh HNK).go hp ht
 have k1:=hK2.box.cell (i:=1) (v:=.slice none 0 0) rfl
 have kf:=hK2.box.free 1
 have kl:=hK2.box.lt
 replace HNK:=hide ((uh HNK).put1 hli hm hp ht)
 clear hm hp ht hK2 HC hli
 rotate_left
 all_goals
  have HC:=hide (pz_want (uh HNK).pz (W:=Kcl) rfl)
  go_wp2_with fail
  refine (uh HC).mono ?_
  rintro e wX ⟨rfl,hp,ht⟩
  replace HNK:=hide ((uh HNK).go hp ht)
  clear hp ht HC
  try clear k1 kf kl
  have HC:=hide (pz_want (uh HNK).pz (W:=Kret) rfl)
  go_wp2_with fail
  refine (uh HC).mono ?_
  rintro e wX ⟨rfl,hp,ht⟩
  replace HNK:=hide ((uh HNK).go hp ht)
  clear hp ht HC
  have HC:=hide (pz_want (uh HNK).pz (W:=Kop) rfl)
  go_wp2_with fail
  refine (uh HC).mono ?_
  rintro e wX ⟨rfl,hp,ht⟩
  replace HNK:=hide ((uh HNK).go hp ht)
  clear hp ht HC
  obtain ⟨v0,r0,hout⟩:=uh HOUT
  have HC:=hide (uh HSEP _ outs (uh HO) hlo v0 r0 hout _ (uh HNK).pz)
  clear hout
  go_wp2_with fail
  refine (uh HC).mono ?_
  rintro e w5 ⟨ao,no,co,rfl,hm,hp,ht⟩
  have hK2:=(uh HNK).go hp ht
  have k1:=hK2.box.cell (i:=2) (v:=.slice none 0 0) rfl
  have kf:=hK2.box.free 2
  have kl:=hK2.box.lt
  replace HNK:=hide ((uh HNK).put2 hlo hm hp ht)
  clear hm hp ht hK2 HC
  have HC:=hide (pz_want (uh HNK).pz (W:=Kcl) rfl)
  go_wp2_with fail
  refine (uh HC).mono ?_
  rintro e wX ⟨rfl,hp,ht⟩
  replace HNK:=hide ((uh HNK).go hp ht)
  clear hp ht HC k1 kf kl
  rcases uh HVARS with hvr | hvr
  have HC : Hid (Calls Tryz.prog 77 #[.pointer (some ⟨q,0,none⟩),.string Kvar] wX (PzAns ts W0 q tv wX (.bool false) (fx Klet :: ((esZ eqs).flatMap (fun z => z.1 ++ [fx Ksem]) ++ fx Ktel :: L)))):=by
   have g:=(uh HNK).pz
   subst hvr
   exact pz_takesno g (by decide)
  go_wp2_with fail
  refine (uh HC).mono ?_
  rintro e w6 ⟨rfl,hp,ht⟩
  replace HNK:=hide ((uh HNK).go hp ht)
  clear hp ht HC
  subst hvr
  rotate_left
  have HC : Hid (Calls Tryz.prog 77 #[.pointer (some ⟨q,0,none⟩),.string Kvar] wX (PzAns ts W0 q tv wX (.bool true) ((vsZ vars).flatMap (fun z => z.1 ++ [fx Ksem]) ++ fx Klet :: ((esZ eqs).flatMap (fun z => z.1 ++ [fx Ksem]) ++ fx Ktel :: L)))):=by
   have g:=(uh HNK).pz
   have hl0 : ¬ vars.length = 0:=fun e => hvr (List.eq_nil_of_length_eq_zero e)
   unfold vrK at g
   simp only [if_neg hl0] at g
   have e9 : (vsZ vars).flatMap (fun z => z.1 ++ [fx Ksem]) = dlsK vars ++ [fx Ksem]:=by
    unfold dlsK vsZ
    rw [jn_end _ _ (by simpa using hvr),List.flatMap_map,List.flatMap_map]
   rw [e9]
   exact pz_takes g rfl
  go_wp2_with fail
  refine (uh HC).mono ?_
  rintro e w6 ⟨rfl,hp,ht⟩
  replace HNK:=hide ((uh HNK).go hp ht)
  clear hp ht HC
  have HC:=endVar (word:=Klet) (vsZ vars) (by have : 0 < vars.length:=List.length_pos_iff.2 hvr; unfold vsZ; simp; omega) (local_one (uh HV)) (var_fst (uh HV)) (uh HNK).pz (by unfold vsZ; simp; omega)
  rw [vsZ_snd] at HC
  have HC:=hide HC
  clear hvr
  go_wp2_with fail
  refine (uh HC).mono ?_
  rintro e w7 ⟨av,nv,cv,rfl,hm,hp,ht⟩
  have hK2:=(uh HNK).go hp ht
  have k1:=hK2.box.cell (i:=3) (v:=.slice none 0 0) rfl
  have kf:=hK2.box.free 3
  have kl:=hK2.box.lt
  replace HNK:=hide ((uh HNK).put3 hlv hm hp ht)
  clear hm hp ht hK2 HC
  rotate_left
  all_goals
   have HC:=hide (pz_want (uh HNK).pz (W:=Klet) rfl)
   go_wp2_with fail
   refine (uh HC).mono ?_
   rintro e wX ⟨rfl,hp,ht⟩
   replace HNK:=hide ((uh HNK).go hp ht)
   clear hp ht HC
   try clear k1 kf kl
   have HC:=endEq (word:=Ktel) (esZ eqs) (by have:=(uh HEL).1; unfold esZ; simp; omega) (eq_one (uh HQ)) (eq_fst (uh HQ)) (uh HNK).pz (by have:=(uh HEL).2; unfold esZ; simp; omega)
   rw [esZ_snd] at HC
   have HC:=hide HC
   go_wp2_with fail
   refine (uh HC).mono ?_
   rintro e w8 ⟨ae,ne,ce,rfl,hm,hp,ht⟩
   have hK2:=(uh HNK).go hp ht
   have k1:=hK2.box.cell (i:=4) (v:=.slice none 0 0) rfl
   have kf:=hK2.box.free 4
   have kl:=hK2.box.lt
   replace HNK:=hide ((uh HNK).put4 (by have:=(uh HEL).2; simp; omega) hm hp ht)
   clear hm hp ht hK2 HC
   have HC:=hide (pz_want (uh HNK).pz (W:=Ktel) rfl)
   go_wp2_with fail
   refine (uh HC).mono ?_
   rintro e wX ⟨rfl,hp,ht⟩
   replace HNK:=hide ((uh HNK).go hp ht)
   clear hp ht HC k1 kf kl
   obtain ⟨e0,e1,e2,e3,e4,y0,y1,y2,y3,y4,g0,g1,g2,g3,g4,lr,r0,r1,r2,r3,r4,HF⟩:=(uh HNK).done hsz
   rw [← uh HPO] at HF
   clear HNK
   go_wp2
   refine bodyPost_ret ?_ rfl (uh HF)
   simp [results,Tryz.results47,go_sem,r0,r1,r2,r3,r4]
end
end Go.Proofs.YtajabbnlbopcbaaGreatDoor
