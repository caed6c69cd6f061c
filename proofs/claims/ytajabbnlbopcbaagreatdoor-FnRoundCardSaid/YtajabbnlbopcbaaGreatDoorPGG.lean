import Derived.Test.YtajabbnlbopcbaaGreatDoorPGE
namespace Go.Proofs.YtajabbnlbopcbaaGreatDoor
open Go.RowKit
set_option linter.unusedSimpArgs false
set_option linter.unusedVariables false
theorem jn_flat (s : ByteArray) : ∀ (x : List Pc) (xs : List (List Pc)),jnP [fx s] (x :: xs) = x ++ xs.flatMap (fun y => fx s :: y)
 | x,[] => by simp [jnP]
 | x,y :: r => by rw [jnP,jn_flat s y r]; simp
theorem Tr.set4 (b : Nat) (w : World) (x y z u : Value) : Tr b w ((((w.setCell ⟨b,0,none⟩ x).setCell ⟨b,1,none⟩ y).setCell ⟨b,2,none⟩ z).setCell ⟨b,3,none⟩ u):=(Tr.set3 b w x y z).trans (Tr.setCell b _ 3 u)
theorem BlkAt.set4 {w : World} {g : Nat} {e : TypeId} {a b c d x y z u : Value} (h : BlkAt w g e #[a,b,c,d]) : BlkAt ((((w.setCell ⟨g,0,none⟩ x).setCell ⟨g,1,none⟩ y).setCell ⟨g,2,none⟩ z).setCell ⟨g,3,none⟩ u) g e #[x,y,z,u]:=(((h.set 0 x).set 1 y).set 2 z).set 3 u
section
variable {ts : List TK} {W0 : World} {q : Nat} {tv iv iv' : Value} {W1 w : World} {L : List Pc} {xs : List DItem}
theorem MkR.tr {α : Type} {sz : Nat} {E : ElF Tryz.prog (Raw sz)} {R : World → List Value → α → List Nat → Prop} {B : Nat} {v : Value} {xs : List α} (hR : FrBy R) {b : Nat} {A X : World} (h : MkR E R B A v xs) (ht : Tr b A X) (hb : b < B) : MkR E R B X v xs:=h.keep hR ht.size (fun k hk hlt => ht.block k hlt (by omega))
def argZ (exs : List CP) : List (List Pc × List DItem):=exs.map (fun x => (tkP x.2,x.1))
def CallPost (ts : List TK) (W0 : World) (q : Nat) (tv : Value) (w : World) (nv : Value) (s : ByteArray) (exs : List CP) (L : List Pc) (e : Ending) (w' : World) : Prop :=
 ∃ a n c,e = .returned (.agg #[nv,.slice none 0 0,.string s,.slice a n c]) ∧ MkR rItems TItems w.heap.size w' (.slice a n c) (exs.map (·.1)) ∧ Pz ts W0 q tv w' L ∧ Tr q w w'
set_option maxHeartbeats 4000000 in
theorem call_ok {s : ByteArray} (hs : plainB s = true) (exs : List CP) (hx : ∀ x ∈ exs,Ex x.1 x.2) (hxl : ∀ x ∈ exs,x.1.length ≤ 3000) (hl : exs.length ≤ 500) {na : Option Addr} {nn nc : Nat} (h : Pz ts W0 q tv w (nmP s :: fx Kop :: (jnP [fx Kcom] (exs.map (fun x => tkP x.2)) ++ fx Kcl :: L))) :
  Calls Tryz.prog 98 #[.pointer (some ⟨q,0,none⟩),.slice na nn nc] w (CallPost ts W0 q tv w (.slice na nn nc) s exs L):=by
 have hql:=h.lt
 have hsz:=(plain_parts hs).1.2
 have hA : Below w.heap.size w (w.alloc (.cells #[.slice none 0 0,.slice none 0 0,.string ⟨#[]⟩,.slice none 0 0] 58)):=(Below.refl _ _).alloc (Nat.le_refl _) _
 have HBX:=hide (blk_box w #[.slice none 0 0,.slice none 0 0,.string ⟨#[]⟩,.slice none 0 0] 58)
 have HN:=hide (pz_name (h.below hA) hsz)
 have HT0:=hide (Tr.of_below (r:=q) hA)
 have hne : w.heap.size ≠ q:=by omega
 obtain ⟨PO,hPO⟩ : ∃ PO : Ending → World → Prop,PO = CallPost ts W0 q tv w (.slice na nn nc) s exs L:=⟨_,rfl⟩
 rw [← hPO]
 have HPO:=hide hPO
 have HONE : Hid (∀ z ∈ argZ exs,∀ X m M,(m = fx Kcom ∨ m = fx Kcl) → Pz ts W0 q tv X (z.1 ++ m :: M) → Calls Tryz.prog 99 #[.pointer (some ⟨q,0,none⟩)] X (IPost ts W0 q tv X (m :: M) z.2)):=by
  intro z hz X m M hm hp
  obtain ⟨x,hx9,rfl⟩:=List.mem_map.1 hz
  refine code_ok (hx x hx9) (hxl x hx9) ?_ hp
  rcases hm with rfl | rfl
  ·exact stop_com
  ·exact stop_cl
 have HHD : Hid (∀ x ∈ exs,∃ a T,tkP x.2 = a :: T ∧ ¬ a.text = Kcl):=hide (fun x hx9 => by
  obtain ⟨a,T,e,ha,_⟩:=(hx x hx9).head
  exact ⟨a,T,e,ha.ne wKcl (by decide) (by decide) (by decide)⟩)
 clear h hA hPO hs hx hxl hsz
 have HFN : Hid (∀ X eb a n c,q < eb → w.heap.size < eb → Pz ts W0 q tv X L → Tr q w X → BlkAt X w.heap.size 58 #[.slice none 0 0,.slice none 0 0,.string ⟨#[]⟩,.slice none 0 0] → MkR rItems TItems (w.heap.size + 1) X (.slice a n c) (exs.map (·.1)) → BlkAt ((((X.setCell ⟨w.heap.size,0,none⟩ (.slice na nn nc)).setCell ⟨w.heap.size,1,none⟩ (.slice none 0 0)).setCell ⟨w.heap.size,2,none⟩ (.string s)).setCell ⟨w.heap.size,3,none⟩ (.slice a n c)) w.heap.size 58 #[.slice na nn nc,.slice none 0 0,.string s,.slice a n c] ∧ PO (.returned (.agg #[.slice na nn nc,.slice none 0 0,.string s,.slice a n c])) ((((X.setCell ⟨w.heap.size,0,none⟩ (.slice na nn nc)).setCell ⟨w.heap.size,1,none⟩ (.slice none 0 0)).setCell ⟨w.heap.size,2,none⟩ (.string s)).setCell ⟨w.heap.size,3,none⟩ (.slice a n c))):=by
  intro X eb a n c _ _ hp htr hb hm
  refine ⟨hb.set4,?_⟩
  rw [uh HPO]
  have hT4:=Tr.set4 w.heap.size X (.slice na nn nc) (.slice none 0 0) (.string s) (.slice a n c)
  exact ⟨a,n,c,rfl,(hm.tr TItems_fr hT4 (by omega)).low (by omega),hp.box hT4 (by omega),htr.new hT4 (Nat.le_refl _)⟩
 go_enter Tryz.func98,Tryz.ntmps98
 go_wp2_with fail
 refine (uh HN).mono ?_
 rintro e w1 ⟨rfl,hp1,ht1⟩
 obtain ⟨A,hAA⟩ : ∃ A,A = w1.alloc (.cells #[.slice na nn nc,.slice none 0 0,.string s,.slice none 0 0] 58):=⟨_,rfl⟩
 have hA : Below w1.heap.size w1 A:=hAA ▸ (Below.refl _ _).alloc (Nat.le_refl _) _
 have hbe : BlkAt A w1.heap.size 58 #[.slice na nn nc,.slice none 0 0,.string s,.slice none 0 0]:=hAA ▸ blk_box w1 _ _
 have hlw : w.heap.size < w1.heap.size:=by have:=(uh HBX).lt; have:=ht1.size; omega
 have hbr:=(ht1.blk (uh HBX) hne).below hA (by omega)
 have HC1:=hide (pz_want (hp1.below hA) (W:=Kop) rfl)
 have HT1:=hide (((uh HT0).trans ht1).trans (Tr.of_below hA))
 have HB1:=hide (And.intro hbe hbr)
 have HAA:=hide hAA
 clear hp1 ht1 hA hbe hbr HN HT0 HBX hAA
 go_wp2_with fail
 rw [← uh HAA]
 refine (uh HC1).mono ?_
 rintro e w2 ⟨rfl,hp2,ht2⟩
 have hne1 : w1.heap.size ≠ q:=by omega
 have hbe:=ht2.blk (uh HB1).1 hne1
 have hbr:=ht2.blk (uh HB1).2 hne
 have HB2:=hide (And.intro hbe hbr)
 have HT2:=hide ((uh HT1).trans ht2)
 have HP2:=hide hp2
 clear hp2 ht2 hbe hbr HC1 HB1 HT1
 cases exs with
 | nil =>
  have hp2 : Pz ts W0 q tv w2 (fx Kcl :: L):=uh HP2
  have HC2:=pz_sees hp2 Kcl
  simp only [fx,decide_true] at HC2
  have HC2:=hide HC2
  clear hp2
  go_wp2_with fail
  refine (uh HC2).mono ?_
  rintro e w3 ⟨rfl,hp3,ht3⟩
  have HC3:=hide (pz_want hp3 (W:=Kcl) rfl)
  have HT3:=hide ((uh HT2).trans ht3)
  have HB3:=hide (And.intro (ht3.blk (uh HB2).1 hne1) (ht3.blk (uh HB2).2 hne))
  clear hp3 ht3 HC2 HT2 HB2
  go_wp2_with fail
  refine (uh HC3).mono ?_
  rintro e w4 ⟨rfl,hp4,ht4⟩
  have hbe:=ht4.blk (uh HB3).1 hne1
  have hbr:=ht4.blk (uh HB3).2 hne
  obtain ⟨hr,hf⟩:=uh HFN w4 w1.heap.size none 0 0 (by omega) hlw hp4 ((uh HT3).trans ht4) hbr (MkR.nil _ _ _ _)
  have e0:=hbe.cell (i:=0) (v:=.slice na nn nc) rfl
  have e1:=hbe.cell (i:=1) (v:=.slice none 0 0) rfl
  have e2:=hbe.cell (i:=2) (v:=.string s) rfl
  have e3:=hbe.cell (i:=3) (v:=.slice none 0 0) rfl
  have y0:=hbr.cell (i:=0) (v:=.slice none 0 0) rfl
  have y1:=hbr.cell (i:=1) (v:=.slice none 0 0) rfl
  have y2:=hbr.cell (i:=2) (v:=.string ⟨#[]⟩) rfl
  have y3:=hbr.cell (i:=3) (v:=.slice none 0 0) rfl
  have g0:=hbr.free 0
  have g1:=hbr.free 1
  have g2:=hbr.free 2
  have g3:=hbr.free 3
  have lr:=hbr.lt
  have r0:=hr.cell (i:=0) (v:=.slice na nn nc) rfl
  have r1:=hr.cell (i:=1) (v:=.slice none 0 0) rfl
  have r2:=hr.cell (i:=2) (v:=.string s) rfl
  have r3:=hr.cell (i:=3) (v:=.slice none 0 0) rfl
  have HF:=hide hf
  clear hp4 ht4 hbe hbr hr hf HC3 HT3 HB3 HFN
  go_wp2
  refine bodyPost_ret ?_ rfl (uh HF)
  simp [results,Tryz.results98,go_sem,r0,r1,r2,r3]
 | cons x r =>
  have hp2 : Pz ts W0 q tv w2 (tkP x.2 ++ ((argZ r).flatMap (fun z => fx Kcom :: z.1) ++ fx Kcl :: L)):=by
   have h9:=uh HP2
   rw [List.map_cons,jn_flat,List.append_assoc] at h9
   have e : (r.map (fun x => tkP x.2)).flatMap (fun y => fx Kcom :: y) = (argZ r).flatMap (fun z => fx Kcom :: z.1):=by
    unfold argZ
    rw [List.flatMap_map,List.flatMap_map]
   rw [e] at h9
   exact h9
  obtain ⟨ax,Tx,hx1,hx2⟩:=uh HHD x (by simp)
  have HC2 : Hid (Calls Tryz.prog 74 #[.pointer (some ⟨q,0,none⟩),.string Kcl] w2 (PzAns ts W0 q tv w2 (.bool false) (tkP x.2 ++ ((argZ r).flatMap (fun z => fx Kcom :: z.1) ++ fx Kcl :: L)))):=by
   rw [hx1] at hp2 ⊢
   have h9:=pz_sees hp2 Kcl
   rw [decide_eq_false hx2] at h9
   exact h9
  clear hp2 hx1 hx2 HHD HP2
  go_wp2_with fail
  refine (uh HC2).mono ?_
  rintro e w3 ⟨rfl,hp3,ht3⟩
  have HSP:=hide (sepIts (w:=w3) (sign:=Kcom) (t:=fx Kcl) (L:=L) (tkP x.2,x.1) (argZ r) (fun z hz => uh HONE z hz) hp3 (by decide) (by unfold argZ; simp at hl ⊢; omega))
  have HT3:=hide ((uh HT2).trans ht3)
  have HB3:=hide (And.intro (ht3.blk (uh HB2).1 hne1) (ht3.blk (uh HB2).2 hne))
  clear hp3 ht3 HC2 HT2 HB2 HONE
  go_wp2_with fail
  refine (uh HSP).mono ?_
  rintro e w4 ⟨a4,n4,c4,rfl,hm4,hp4,ht4⟩
  have hbe:=ht4.blk (uh HB3).1 hne1
  have hbr:=ht4.blk (uh HB3).2 hne
  obtain ⟨B,hBB⟩ : ∃ B,B = w4.setCell ⟨w1.heap.size,3,none⟩ (.slice a4 n4 c4):=⟨_,rfl⟩
  have hTB : Tr w1.heap.size w4 B:=hBB ▸ Tr.setCell _ _ _ _
  have hbeB : BlkAt B w1.heap.size 58 #[.slice na nn nc,.slice none 0 0,.string s,.slice a4 n4 c4]:=by rw [hBB]; exact hbe.set 3 _
  have hbrB:=hTB.blk hbr (by omega)
  have hmB : MkR rItems TItems w3.heap.size B (.slice a4 n4 c4) ((x :: r).map (·.1)):=by
   have h9:=hm4.tr TItems_fr hTB (by have:=(uh HB3).1.lt; omega)
   have e : ((tkP x.2,x.1) : List Pc × List DItem).2 :: (argZ r).map (·.2) = (x :: r).map (·.1):=by unfold argZ; simp
   rw [e] at h9
   exact h9
  have HC4:=hide (pz_want (hp4.box hTB (by omega)) (W:=Kcl) rfl)
  have HT4:=hide (((uh HT3).trans ht4).new hTB (by omega))
  have HB4:=hide (And.intro hbeB hbrB)
  have HM4:=hide (hmB.low (B':=w.heap.size + 1) (by have:=(uh HB3).1.lt; omega))
  have b3:=hbe.cell (i:=3) (v:=.slice none 0 0) rfl
  have bf:=hbe.free 3
  have bl:=hbe.lt
  have HBB:=hide hBB
  clear hm4 hp4 ht4 hbe hbr hTB hbeB hbrB hmB hBB HSP HT3 HB3
  go_wp2_with fail
  rw [← uh HBB]
  refine (uh HC4).mono ?_
  rintro e w5 ⟨rfl,hp5,ht5⟩
  have hbe:=ht5.blk (uh HB4).1 hne1
  have hbr:=ht5.blk (uh HB4).2 hne
  obtain ⟨hr,hf⟩:=uh HFN w5 w1.heap.size a4 n4 c4 (by omega) hlw hp5 ((uh HT4).trans ht5) hbr ((uh HM4).tr TItems_fr ht5 (by omega))
  have e0:=hbe.cell (i:=0) (v:=.slice na nn nc) rfl
  have e1:=hbe.cell (i:=1) (v:=.slice none 0 0) rfl
  have e2:=hbe.cell (i:=2) (v:=.string s) rfl
  have e3:=hbe.cell (i:=3) (v:=.slice a4 n4 c4) rfl
  have y0:=hbr.cell (i:=0) (v:=.slice none 0 0) rfl
  have y1:=hbr.cell (i:=1) (v:=.slice none 0 0) rfl
  have y2:=hbr.cell (i:=2) (v:=.string ⟨#[]⟩) rfl
  have y3:=hbr.cell (i:=3) (v:=.slice none 0 0) rfl
  have g0:=hbr.free 0
  have g1:=hbr.free 1
  have g2:=hbr.free 2
  have g3:=hbr.free 3
  have lr:=hbr.lt
  have r0:=hr.cell (i:=0) (v:=.slice na nn nc) rfl
  have r1:=hr.cell (i:=1) (v:=.slice none 0 0) rfl
  have r2:=hr.cell (i:=2) (v:=.string s) rfl
  have r3:=hr.cell (i:=3) (v:=.slice a4 n4 c4) rfl
  have HF:=hide hf
  clear hp5 ht5 hbe hbr hr hf HC4 HT4 HB4 HFN HM4
  go_wp2
  refine bodyPost_ret ?_ rfl (uh HF)
  simp [results,Tryz.results98,go_sem,r0,r1,r2,r3]
end
end Go.Proofs.YtajabbnlbopcbaaGreatDoor
namespace Go.Proofs.YtajabbnlbopcbaaGreatDoor
open Go.RowKit
set_option linter.unusedSimpArgs false
set_option linter.unusedVariables false
section
variable {ts : List TK} {W0 : World} {q : Nat} {tv iv iv' : Value} {W1 w : World} {L : List Pc} {xs : List DItem}
theorem pz_ahead (h : Pz ts W0 q tv w L) (k : Nat) (hk : k ≤ 2) (hkl : k < L.length) :
  Calls Tryz.prog 48 #[.pointer (some ⟨q,0,none⟩),.int .i64 k] w fun e w' => ∃ p9 : Int,e = .returned (.agg #[.int .i64 (L[k].kind : Int),.string L[k].text,.int .i64 L[k].val,.int .i64 p9]) ∧ Pz ts W0 q tv w' L ∧ Tr q w w':=by
 obtain ⟨iv,h⟩:=h
 refine (ahead_ok h k hk hkl).mono ?_
 rintro e w1 ⟨p9,rfl,hb⟩
 exact ⟨p9,rfl,⟨iv,h.below hb⟩,Tr.of_below hb⟩
theorem eq_fin {X Y : World} {B lo : Nat} {lv cv av : Value} {e : DEq} (hlo : lo ≤ B) (hBY : B ≤ Y.heap.size) (h1 : OwnV elStr Y lo lv e.lhs) (h1b : ∀ b,lv.ownBlock = some b → b < B) (hs : ∀ s ∈ e.lhs,s.size ≤ 40) (hl : e.lhs.length ≤ 500) (hc : e.call.size ≤ 40)
  (h2 : ∃ b2 b3,RowD elItem okI Y cv e.code b2 ∧ RowT rItems TItems Y av e.args b3 ∧ (b2 ++ b3).Nodup ∧ ∀ b ∈ b2 ++ b3,B ≤ b ∧ b < Y.heap.size) : Fin (fun w bs => TEq w [lv,cv,.string e.call,av] e bs) lo Y.heap.size Y:=by
 obtain ⟨b2,b3,g2,g3,g4,g5⟩:=h2
 have hk : ∀ b ∈ blkOf lv,lo ≤ b ∧ b < B:=fun b hb => ⟨(World.ownsRow.lt h1 b (mem_blkOf.1 hb)).1,h1b b (mem_blkOf.1 hb)⟩
 have hn : (blkOf lv).Nodup:=by unfold blkOf; cases lv.ownBlock <;> simp
 have h9:=nd_app hn g4 hk g5 hlo hBY
 refine ⟨blkOf lv ++ (b2 ++ b3),⟨lv,cv,av,blkOf lv,b2,b3,rfl,by unfold Len; omega,⟨h1.low (Nat.zero_le _),fun s hs9 => by have:=hs s hs9; unfold okS Len; omega,by simp [elStr]; omega,rfl⟩,g2,g3,by rw [List.append_assoc]⟩,h9.1,h9.2⟩
theorem rowT_nil (Y : World) : RowT rItems TItems Y (.slice none 0 0) [] []:=⟨[],[],OwnV.nil _ _,by simp,All3.nil,rfl⟩
theorem rowD_nil (Y : World) : RowD elItem okI Y (.slice none 0 0) [] []:=⟨OwnV.nil _ _,fun x hx => absurd hx (List.not_mem_nil),by simp,rfl⟩
def nmZ (ss : List ByteArray) : List (List Pc × ByteArray):=ss.map (fun s => ([nmP s],s))
theorem nmZ_snd (ss : List ByteArray) : (nmZ ss).map (·.2) = ss:=by
 unfold nmZ
 rw [List.map_map]
 exact List.map_id ss
theorem nm_one {ss : List ByteArray} (hs : ∀ s ∈ ss,s.size ≤ 40) : ∀ z ∈ nmZ ss,∀ X m M,(m = fx Kcom ∨ m = fx Keq) → Pz ts W0 q tv X (z.1 ++ m :: M) → Calls Tryz.prog 73 #[.pointer (some ⟨q,0,none⟩)] X (SPost ts W0 q tv X (m :: M) z.2):=by
 intro z hz X m M _ hp
 obtain ⟨s,hs9,rfl⟩:=List.mem_map.1 hz
 exact pz_name hp (hs s hs9)
set_option maxHeartbeats 8000000 in
theorem equation_call {e : PEq} (he : okQ e) (hcs : ¬ e.call.size = 0) (h : Pz ts W0 q tv w (eqK e ++ L)) :
  Calls Tryz.prog 81 #[.pointer (some ⟨q,0,none⟩)] w (EPost ts W0 q tv w (fx Ksem :: L) e.eq):=by
 have hql:=h.lt
 obtain ⟨lhs,call,exs⟩:=e
 obtain ⟨⟨hx,hx1⟩,⟨hl1,hl2⟩,hpl,hcl,hcl2,hxn,hxl⟩:=he
 simp only at hx hx1 hl1 hl2 hpl hcl hcl2 hxn hxl
 have hA : Below w.heap.size w (w.alloc (.cells #[.slice none 0 0,.slice none 0 0,.string ⟨#[]⟩,.slice none 0 0] 58)):=(Below.refl _ _).alloc (Nat.le_refl _) _
 have HBX:=hide (blk_box w #[.slice none 0 0,.slice none 0 0,.string ⟨#[]⟩,.slice none 0 0] 58)
 have hne : w.heap.size ≠ q:=by omega
 have HS40 : Hid (∀ s ∈ lhs,s.size ≤ 40):=hide (fun s hs => (plain_parts (hpl s hs)).1.2)
 obtain ⟨s0,ss,rfl⟩ : ∃ s0 ss,lhs = s0 :: ss:=by
  cases lhs with
  | nil => simp at hl1
  | cons a b => exact ⟨a,b,rfl⟩
 have h2 : Pz ts W0 q tv (w.alloc (.cells #[.slice none 0 0,.slice none 0 0,.string ⟨#[]⟩,.slice none 0 0] 58)) ([nmP s0] ++ ((nmZ ss).flatMap (fun z => fx Kcom :: z.1) ++ fx Keq :: (rhK ⟨s0 :: ss,call,exs⟩ ++ fx Ksem :: L))):=by
  have h9:=h.below hA
  unfold eqK nmsK at h9
  simp only [List.map_cons,jn_flat,List.append_assoc,List.cons_append,List.nil_append,List.flatMap_map] at h9
  unfold nmZ
  simp only [List.flatMap_map,List.cons_append,List.nil_append]
  exact h9
 have HSP:=hide (sepStr (sign:=Kcom) (t:=fx Keq) ([nmP s0],s0) (nmZ ss) (fun z hz => nm_one (uh HS40) z hz) h2 (by decide) (by unfold nmZ; simp at hl2 ⊢; omega))
 have HT0:=hide (Tr.of_below (r:=q) hA)
 obtain ⟨PO,hPO⟩ : ∃ PO : Ending → World → Prop,PO = EPost ts W0 q tv w (fx Ksem :: L) (PEq.eq ⟨s0 :: ss,call,exs⟩):=⟨_,rfl⟩
 rw [← hPO]
 have HPO:=hide hPO
 have hl3 : ss.length < 500:=by simp at hl2; omega
 have hsz0 : (w.alloc (.cells #[.slice none 0 0,.slice none 0 0,.string ⟨#[]⟩,.slice none 0 0] 58)).heap.size = w.heap.size + 1:=by simp
 rw [hsz0] at HSP
 clear h h2 hA hPO hsz0 hl1 hl2
 go_enter Tryz.func81,Tryz.ntmps81
 go_wp2_with fail
 refine (uh HSP).mono ?_
 rintro e w1 ⟨a1,n1,c1,rfl,hm1,hp1,ht1⟩
 have hlen1 : n1 = ss.length + 1:=by
  obtain ⟨a9,c9,h9⟩:=hm1.slice
  simp only [Value.slice.injEq] at h9
  rw [h9.2.1]
  unfold nmZ
  simp
 have hm1' : OwnV elStr w1 (w.heap.size + 1) (.slice a1 n1 c1) (s0 :: ss):=by
  have e9 : (([nmP s0],s0) : List Pc × ByteArray).2 :: (nmZ ss).map (·.2) = s0 :: ss:=by rw [nmZ_snd]
  rw [e9] at hm1
  exact hm1
 have HLEN:=hide hlen1
 have HM1:=hide hm1'
 have HT1:=hide ((uh HT0).trans ht1)
 have HB1:=hide (ht1.blk (uh HBX) hne)
 have HC1:=hide (pz_want hp1 (W:=Keq) rfl)
 have hlw : w.heap.size < w1.heap.size:=(uh HB1).lt
 clear hp1 ht1 hm1 hm1' hlen1 HSP HT0 HBX
 go_wp2_with fail
 refine (uh HC1).mono ?_
 rintro e w2 ⟨rfl,hp2,ht2⟩
 have HT2:=hide ((uh HT1).trans ht2)
 have HB2:=hide (ht2.blk (uh HB1) hne)
 have HM2:=hide ((uh HM1).ofBlock (fun b hb => ht2.block b (World.ownsRow.lt (uh HM1) b hb).2 (by have:=(World.ownsRow.lt (uh HM1) b hb).1; omega)))
 have HP2:=hide hp2
 have hlw2 : w.heap.size < w2.heap.size:=(uh HB2).lt
 clear hp2 ht2 HC1 HT1 HB1 HM1 hlw
 have HCN:=hide hcs
 have hcp:=hcl hcs
 have HC40 : Hid (call.size ≤ 40):=(plain_parts hcp).1.2
 have HP3 : Hid (Pz ts W0 q tv w2 (nmP call :: fx Kop :: (jnP [fx Kcom] (exs.map (fun x => tkP x.2)) ++ fx Kcl :: (fx Ksem :: L)))):=by
  have h9:=uh HP2
  unfold rhK at h9
  simp only [if_neg hcs,List.cons_append,List.append_assoc,List.nil_append] at h9
  exact h9
 have HCALL : Hid (∀ X,Pz ts W0 q tv X (nmP call :: fx Kop :: (jnP [fx Kcom] (exs.map (fun x => tkP x.2)) ++ fx Kcl :: (fx Ksem :: L))) → Calls Tryz.prog 98 #[.pointer (some ⟨q,0,none⟩),.slice a1 n1 c1] X (CallPost ts W0 q tv X (.slice a1 n1 c1) call exs (fx Ksem :: L))):=hide (fun X hp => call_ok hcp exs hx hxl hxn hp)
 clear HP2 hcs hcp hx hx1 hpl hcl hcl2 hxl
 by_cases hn1 : 1 < n1
 ·obtain ⟨w3,hw3⟩ : ∃ w3,w3 = w2:=⟨_,rfl⟩
  rw [← hw3] at HT2 HB2 HM2 HP3 hlw2 ⊢
  clear hw3 w2
  have HCA:=hide (uh HCALL w3 (uh HP3))
  have HT3:=HT2
  have HB3:=HB2
  have HM3:=HM2
  clear HT2 HB2 HM2 HCALL
  go_wp2_with fail
  refine (uh HCA).mono ?_
  rintro e w4 ⟨a4,n4,c4,rfl,hm4,hp4,ht4⟩
  have hbr:=ht4.blk (uh HB3) hne
  have hT4:=Tr.set4 w.heap.size w4 (.slice a1 n1 c1) (.slice none 0 0) (.string call) (.slice a4 n4 c4)
  have hr:=hbr.set4 (x:=.slice a1 n1 c1) (y:=.slice none 0 0) (z:=.string call) (u:=.slice a4 n4 c4)
  have hz4:=ht4.size
  have HF : Hid (PO (.returned (.agg #[.slice a1 n1 c1,.slice none 0 0,.string call,.slice a4 n4 c4])) ((((w4.setCell ⟨w.heap.size,0,none⟩ (.slice a1 n1 c1)).setCell ⟨w.heap.size,1,none⟩ (.slice none 0 0)).setCell ⟨w.heap.size,2,none⟩ (.string call)).setCell ⟨w.heap.size,3,none⟩ (.slice a4 n4 c4))):=by
   show PO _ _
   rw [uh HPO]
   have hc9 : ¬ call.size = 0:=uh HCN
   unfold PEq.eq
   simp only [if_neg hc9]
   have hn3:=((uh HM3).ofBlock (w':=w4) (fun b hb => ht4.block b (World.ownsRow.lt (uh HM3) b hb).2 (by have:=(World.ownsRow.lt (uh HM3) b hb).1; omega)))
   have hn4:=hn3.ofBlock (w':=((((w4.setCell ⟨w.heap.size,0,none⟩ (.slice a1 n1 c1)).setCell ⟨w.heap.size,1,none⟩ (.slice none 0 0)).setCell ⟨w.heap.size,2,none⟩ (.string call)).setCell ⟨w.heap.size,3,none⟩ (.slice a4 n4 c4))) (fun b hb => hT4.block b (World.ownsRow.lt hn3 b hb).2 (by have:=(World.ownsRow.lt hn3 b hb).1; omega))
   obtain ⟨bs,q1,q2,q3⟩:=(hm4.tr TItems_fr hT4 (by omega)).fin (Nat.le_trans (Nat.mul_le_mul_right _ (show (exs.map (·.1)).length ≤ 500 by simp; omega)) (show 500 * rItems.byt ≤ 140737488355328 by decide))
   refine ⟨a1,n1,c1,none,0,0,a4,n4,c4,rfl,eq_fin (X:=w) (B:=w3.heap.size) (lo:=w.heap.size) (by omega) (Nat.le_trans hz4 hT4.size) (hn4.low (by omega)) (fun b hb => (World.ownsRow.lt (uh HM3) b hb).2) (uh HS40) (by simp; omega) (uh HC40) ⟨[],bs,rowD_nil _,q1,by simpa using q2,fun b hb => q3 b (by simpa using hb)⟩,hp4.box hT4 (by omega),((uh HT3).trans ht4).new hT4 (Nat.le_refl _)⟩
  have y0:=hbr.cell (i:=0) (v:=.slice none 0 0) rfl
  have y1:=hbr.cell (i:=1) (v:=.slice none 0 0) rfl
  have y2:=hbr.cell (i:=2) (v:=.string ⟨#[]⟩) rfl
  have y3:=hbr.cell (i:=3) (v:=.slice none 0 0) rfl
  have g0:=hbr.free 0
  have g1:=hbr.free 1
  have g2:=hbr.free 2
  have g3:=hbr.free 3
  have lr:=hbr.lt
  have r0:=hr.cell (i:=0) (v:=.slice a1 n1 c1) rfl
  have r1:=hr.cell (i:=1) (v:=.slice none 0 0) rfl
  have r2:=hr.cell (i:=2) (v:=.string call) rfl
  have r3:=hr.cell (i:=3) (v:=.slice a4 n4 c4) rfl
  clear hm4 hp4 ht4 hbr hT4 hr hz4 HCA
  go_wp2
  refine bodyPost_ret ?_ rfl (uh HF)
  simp [results,Tryz.results81,go_sem,r0,r1,r2,r3]
 ·have hb1 : decide (1 < (n1 : Int)) = false:=by simp; omega
  have HA0:=hide (pz_ahead (uh HP3) 0 (by omega) (by simp))
  have hfd0:=itok_field0
  have hfd1:=itok_field1
  simp only [List.getElem_cons_zero,nmP] at HA0
  have e1 : ((1 : Nat) : Int) = 1:=rfl
  have e0 : ((0 : Nat) : Int) = 0:=rfl
  rw [e1,e0] at HA0
  have HA1 : Hid (∀ X,Pz ts W0 q tv X (nmP call :: fx Kop :: (jnP [fx Kcom] (exs.map (fun x => tkP x.2)) ++ fx Kcl :: (fx Ksem :: L))) → Calls Tryz.prog 48 #[.pointer (some ⟨q,0,none⟩),.int .i64 1] X fun e w' => ∃ p9 : Int,e = .returned (.agg #[.int .i64 3,.string Kop,.int .i64 0,.int .i64 p9]) ∧ Pz ts W0 q tv w' (nmP call :: fx Kop :: (jnP [fx Kcom] (exs.map (fun x => tkP x.2)) ++ fx Kcl :: (fx Ksem :: L))) ∧ Tr q X w'):=hide (fun X hp => pz_ahead hp 1 (by omega) (by simp))
  clear e1 e0 hn1
  have kop:=tl_eq (x:=Kop) Kop [40] rfl true (by decide)
  go_wp2_with (first | (go_at_call 48; refine (uh HA0).mono ?_; rintro e w5 ⟨p5,rfl,hp5,ht5⟩; have HA2:=hide (uh HA1 _ hp5); have HT5:=hide ht5; clear hp5 ht5 HA0 HA1) | (go_at_call 48; refine (uh HA2).mono ?_; rintro e w3 ⟨p6,rfl,hp6,ht6⟩; have HCA:=hide (uh HCALL _ hp6); have ht7:=(uh HT5).trans ht6; have HT3:=hide ((uh HT2).trans ht7); have HB3:=hide (ht7.blk (uh HB2) hne); have HM3:=hide ((uh HM2).ofBlock (fun b hb => ht7.block b (World.ownsRow.lt (uh HM2) b hb).2 (by have:=(World.ownsRow.lt (uh HM2) b hb).1; omega))); have hlw3:=(uh HB3).lt; clear hp6 ht6 ht7 HA2 HT5))
  go_wp2_with fail
  refine (uh HCA).mono ?_
  rintro e w4 ⟨a4,n4,c4,rfl,hm4,hp4,ht4⟩
  have hbr:=ht4.blk (uh HB3) hne
  have hT4:=Tr.set4 w.heap.size w4 (.slice a1 n1 c1) (.slice none 0 0) (.string call) (.slice a4 n4 c4)
  have hr:=hbr.set4 (x:=.slice a1 n1 c1) (y:=.slice none 0 0) (z:=.string call) (u:=.slice a4 n4 c4)
  have hz4:=ht4.size
  have HF : Hid (PO (.returned (.agg #[.slice a1 n1 c1,.slice none 0 0,.string call,.slice a4 n4 c4])) ((((w4.setCell ⟨w.heap.size,0,none⟩ (.slice a1 n1 c1)).setCell ⟨w.heap.size,1,none⟩ (.slice none 0 0)).setCell ⟨w.heap.size,2,none⟩ (.string call)).setCell ⟨w.heap.size,3,none⟩ (.slice a4 n4 c4))):=by
   show PO _ _
   rw [uh HPO]
   have hc9 : ¬ call.size = 0:=uh HCN
   unfold PEq.eq
   simp only [if_neg hc9]
   have hn3:=((uh HM3).ofBlock (w':=w4) (fun b hb => ht4.block b (World.ownsRow.lt (uh HM3) b hb).2 (by have:=(World.ownsRow.lt (uh HM3) b hb).1; omega)))
   have hn4:=hn3.ofBlock (w':=((((w4.setCell ⟨w.heap.size,0,none⟩ (.slice a1 n1 c1)).setCell ⟨w.heap.size,1,none⟩ (.slice none 0 0)).setCell ⟨w.heap.size,2,none⟩ (.string call)).setCell ⟨w.heap.size,3,none⟩ (.slice a4 n4 c4))) (fun b hb => hT4.block b (World.ownsRow.lt hn3 b hb).2 (by have:=(World.ownsRow.lt hn3 b hb).1; omega))
   obtain ⟨bs,q1,q2,q3⟩:=(hm4.tr TItems_fr hT4 (by omega)).fin (Nat.le_trans (Nat.mul_le_mul_right _ (show (exs.map (·.1)).length ≤ 500 by simp; omega)) (show 500 * rItems.byt ≤ 140737488355328 by decide))
   refine ⟨a1,n1,c1,none,0,0,a4,n4,c4,rfl,eq_fin (X:=w) (B:=w3.heap.size) (lo:=w.heap.size) (by omega) (Nat.le_trans hz4 hT4.size) (hn4.low (by omega)) (fun b hb => (World.ownsRow.lt (uh HM3) b hb).2) (uh HS40) (by simp; omega) (uh HC40) ⟨[],bs,rowD_nil _,q1,by simpa using q2,fun b hb => q3 b (by simpa using hb)⟩,hp4.box hT4 (by omega),((uh HT3).trans ht4).new hT4 (Nat.le_refl _)⟩
  have y0:=hbr.cell (i:=0) (v:=.slice none 0 0) rfl
  have y1:=hbr.cell (i:=1) (v:=.slice none 0 0) rfl
  have y2:=hbr.cell (i:=2) (v:=.string ⟨#[]⟩) rfl
  have y3:=hbr.cell (i:=3) (v:=.slice none 0 0) rfl
  have g0:=hbr.free 0
  have g1:=hbr.free 1
  have g2:=hbr.free 2
  have g3:=hbr.free 3
  have lr:=hbr.lt
  have r0:=hr.cell (i:=0) (v:=.slice a1 n1 c1) rfl
  have r1:=hr.cell (i:=1) (v:=.slice none 0 0) rfl
  have r2:=hr.cell (i:=2) (v:=.string call) rfl
  have r3:=hr.cell (i:=3) (v:=.slice a4 n4 c4) rfl
  clear hm4 hp4 ht4 hbr hT4 hr hz4 HCA
  go_wp2
  refine bodyPost_ret ?_ rfl (uh HF)
  simp [results,Tryz.results81,go_sem,r0,r1,r2,r3]
set_option maxHeartbeats 8000000 in
theorem equation_code {e : PEq} (he : okQ e) (hcs : e.call.size = 0) (h : Pz ts W0 q tv w (eqK e ++ L)) :
  Calls Tryz.prog 81 #[.pointer (some ⟨q,0,none⟩)] w (EPost ts W0 q tv w (fx Ksem :: L) e.eq):=by
 have hql:=h.lt
 obtain ⟨lhs,call,exs⟩:=e
 obtain ⟨⟨hx,hx1⟩,⟨hl1,hl2⟩,hpl,hcl,hcl2,hxn,hxl⟩:=he
 simp only at hx hx1 hl1 hl2 hpl hcl hcl2 hxn hxl
 have hA : Below w.heap.size w (w.alloc (.cells #[.slice none 0 0,.slice none 0 0,.string ⟨#[]⟩,.slice none 0 0] 58)):=(Below.refl _ _).alloc (Nat.le_refl _) _
 have HBX:=hide (blk_box w #[.slice none 0 0,.slice none 0 0,.string ⟨#[]⟩,.slice none 0 0] 58)
 have hne : w.heap.size ≠ q:=by omega
 have HS40 : Hid (∀ s ∈ lhs,s.size ≤ 40):=hide (fun s hs => (plain_parts (hpl s hs)).1.2)
 obtain ⟨s0,ss,rfl⟩ : ∃ s0 ss,lhs = s0 :: ss:=by
  cases lhs with
  | nil => simp at hl1
  | cons a b => exact ⟨a,b,rfl⟩
 have h2 : Pz ts W0 q tv (w.alloc (.cells #[.slice none 0 0,.slice none 0 0,.string ⟨#[]⟩,.slice none 0 0] 58)) ([nmP s0] ++ ((nmZ ss).flatMap (fun z => fx Kcom :: z.1) ++ fx Keq :: (rhK ⟨s0 :: ss,call,exs⟩ ++ fx Ksem :: L))):=by
  have h9:=h.below hA
  unfold eqK nmsK at h9
  simp only [List.map_cons,jn_flat,List.append_assoc,List.cons_append,List.nil_append,List.flatMap_map] at h9
  unfold nmZ
  simp only [List.flatMap_map,List.cons_append,List.nil_append]
  exact h9
 have HSP:=hide (sepStr (sign:=Kcom) (t:=fx Keq) ([nmP s0],s0) (nmZ ss) (fun z hz => nm_one (uh HS40) z hz) h2 (by decide) (by unfold nmZ; simp at hl2 ⊢; omega))
 have HT0:=hide (Tr.of_below (r:=q) hA)
 obtain ⟨PO,hPO⟩ : ∃ PO : Ending → World → Prop,PO = EPost ts W0 q tv w (fx Ksem :: L) (PEq.eq ⟨s0 :: ss,call,exs⟩):=⟨_,rfl⟩
 rw [← hPO]
 have HPO:=hide hPO
 have hl3 : ss.length < 500:=by simp at hl2; omega
 have hsz0 : (w.alloc (.cells #[.slice none 0 0,.slice none 0 0,.string ⟨#[]⟩,.slice none 0 0] 58)).heap.size = w.heap.size + 1:=by simp
 rw [hsz0] at HSP
 clear h h2 hA hPO hsz0 hl1 hl2
 go_enter Tryz.func81,Tryz.ntmps81
 go_wp2_with fail
 refine (uh HSP).mono ?_
 rintro e w1 ⟨a1,n1,c1,rfl,hm1,hp1,ht1⟩
 have hlen1 : n1 = ss.length + 1:=by
  obtain ⟨a9,c9,h9⟩:=hm1.slice
  simp only [Value.slice.injEq] at h9
  rw [h9.2.1]
  unfold nmZ
  simp
 have hm1' : OwnV elStr w1 (w.heap.size + 1) (.slice a1 n1 c1) (s0 :: ss):=by
  have e9 : (([nmP s0],s0) : List Pc × ByteArray).2 :: (nmZ ss).map (·.2) = s0 :: ss:=by rw [nmZ_snd]
  rw [e9] at hm1
  exact hm1
 have HLEN:=hide hlen1
 have HM1:=hide hm1'
 have HT1:=hide ((uh HT0).trans ht1)
 have HB1:=hide (ht1.blk (uh HBX) hne)
 have HC1:=hide (pz_want hp1 (W:=Keq) rfl)
 have hlw : w.heap.size < w1.heap.size:=(uh HB1).lt
 clear hp1 ht1 hm1 hm1' hlen1 HSP HT0 HBX
 go_wp2_with fail
 refine (uh HC1).mono ?_
 rintro e w2 ⟨rfl,hp2,ht2⟩
 have HT2:=hide ((uh HT1).trans ht2)
 have HB2:=hide (ht2.blk (uh HB1) hne)
 have HM2:=hide ((uh HM1).ofBlock (fun b hb => ht2.block b (World.ownsRow.lt (uh HM1) b hb).2 (by have:=(World.ownsRow.lt (uh HM1) b hb).1; omega)))
 have HP2:=hide hp2
 have hlw2 : w.heap.size < w2.heap.size:=(uh HB2).lt
 clear hp2 ht2 HC1 HT1 HB1 HM1 hlw
 obtain rfl:=ba_zero hcs
 obtain ⟨x,rfl⟩:=List.length_eq_one_iff.1 (hx1 rfl)
 have hx9:=hx x (by simp)
 have hl9:=hxl x (by simp)
 have hss : ss.length = 0:=by have:=hcl2 rfl; simpa using this
 have hn1 : n1 = 1:=by have:=uh HLEN; omega
 have HP3 : Hid (Pz ts W0 q tv w2 (tkP x.2 ++ fx Ksem :: L)):=by
  have h9:=uh HP2
  unfold rhK at h9
  simp only [if_pos (show (⟨#[]⟩ : ByteArray).size = 0 from rfl),List.headD_cons] at h9
  exact h9
 have HCODE : Hid (∀ X,Pz ts W0 q tv X (tkP x.2 ++ fx Ksem :: L) → Calls Tryz.prog 99 #[.pointer (some ⟨q,0,none⟩)] X (IPost ts W0 q tv X (fx Ksem :: L) x.1)):=hide (fun X hp => code_ok hx9 hl9 stop_sem hp)
 have hb1 : decide (1 < (n1 : Int)) = false:=by simp; omega
 obtain ⟨a,T,eT,hah,hT0⟩:=hx9.headK
 have hk1 : a.kind = 1 → T = []:=fun h => hT0 (fun e => by
  rcases hah with ⟨_,g⟩ | ⟨g,_⟩ | ⟨g,_⟩
  ·exact kw_ne g wKop e
  ·omega
  ·omega)
 rw [eT] at HP3 HCODE
 have hfd0:=itok_field0
 have hfd1:=itok_field1
 have HA0:=hide (pz_ahead (uh HP3) 0 (by omega) (by simp))
 simp only [List.cons_append,List.getElem_cons_zero] at HA0
 have e0 : ((0 : Nat) : Int) = 0:=rfl
 rw [e0] at HA0
 clear HP2 hcs hx hx1 hpl hcl hcl2 hxl hss hn1 HLEN eT hx9 hl9 e0 hT0 hah
 by_cases hk : a.kind = 1
 ·have hT1:=hk1 hk
  subst hT1
  have HA1 : Hid (∀ X,Pz ts W0 q tv X (a :: ([] ++ fx Ksem :: L)) → Calls Tryz.prog 48 #[.pointer (some ⟨q,0,none⟩),.int .i64 1] X fun e w' => ∃ p9 : Int,e = .returned (.agg #[.int .i64 3,.string Ksem,.int .i64 0,.int .i64 p9]) ∧ Pz ts W0 q tv w' (a :: ([] ++ fx Ksem :: L)) ∧ Tr q X w'):=hide (fun X hp => pz_ahead hp 1 (by omega) (by simp))
  rw [hk] at HA0
  have e1 : ((1 : Nat) : Int) = 1:=rfl
  rw [e1] at HA0
  clear e1 hk hk1
  have kop:=tl_eq (x:=Ksem) Kop [40] rfl false (by decide)
  go_wp2_with (first | (go_at_call 48; refine (uh HA0).mono ?_; rintro e w5 ⟨p5,rfl,hp5,ht5⟩; have HA2:=hide (uh HA1 _ hp5); have HT5:=hide ht5; clear hp5 ht5 HA0 HA1) | (go_at_call 48; refine (uh HA2).mono ?_; rintro e w3 ⟨p6,rfl,hp6,ht6⟩; have HCA:=hide (uh HCODE _ hp6); have ht7:=(uh HT5).trans ht6; have HT3:=hide ((uh HT2).trans ht7); have HB3:=hide (ht7.blk (uh HB2) hne); have HM3:=hide ((uh HM2).ofBlock (fun b hb => ht7.block b (World.ownsRow.lt (uh HM2) b hb).2 (by have:=(World.ownsRow.lt (uh HM2) b hb).1; omega))); have hlw3:=(uh HB3).lt; clear hp6 ht6 ht7 HA2 HT5))
  go_wp2_with fail
  refine (uh HCA).mono ?_
  rintro e w4 ⟨a4,n4,c4,rfl,hF4,hp4,ht4⟩
  have hbr:=ht4.blk (uh HB3) hne
  have hT4:=Tr.set4 w.heap.size w4 (.slice a1 n1 c1) (.slice a4 n4 c4) (.string ⟨#[]⟩) (.slice none 0 0)
  have hr:=hbr.set4 (x:=.slice a1 n1 c1) (y:=.slice a4 n4 c4) (z:=.string ⟨#[]⟩) (u:=.slice none 0 0)
  have hz4:=ht4.size
  have HF : Hid (PO (.returned (.agg #[.slice a1 n1 c1,.slice a4 n4 c4,.string ⟨#[]⟩,.slice none 0 0])) ((((w4.setCell ⟨w.heap.size,0,none⟩ (.slice a1 n1 c1)).setCell ⟨w.heap.size,1,none⟩ (.slice a4 n4 c4)).setCell ⟨w.heap.size,2,none⟩ (.string ⟨#[]⟩)).setCell ⟨w.heap.size,3,none⟩ (.slice none 0 0))):=by
   show PO _ _
   rw [uh HPO]
   unfold PEq.eq
   simp only [if_pos (show (⟨#[]⟩ : ByteArray).size = 0 from rfl),List.headD_cons]
   have hn3:=((uh HM3).ofBlock (w':=w4) (fun b hb => ht4.block b (World.ownsRow.lt (uh HM3) b hb).2 (by have:=(World.ownsRow.lt (uh HM3) b hb).1; omega)))
   have hn4:=hn3.ofBlock (w':=((((w4.setCell ⟨w.heap.size,0,none⟩ (.slice a1 n1 c1)).setCell ⟨w.heap.size,1,none⟩ (.slice a4 n4 c4)).setCell ⟨w.heap.size,2,none⟩ (.string ⟨#[]⟩)).setCell ⟨w.heap.size,3,none⟩ (.slice none 0 0))) (fun b hb => hT4.block b (World.ownsRow.lt hn3 b hb).2 (by have:=(World.ownsRow.lt hn3 b hb).1; omega))
   obtain ⟨bs,⟨cv,hcv,q1⟩,q2,q3⟩:=hF4
   have hcv2 : cv = .slice a4 n4 c4:=by
    have h9 : [Value.slice a4 n4 c4] = [cv]:=hcv
    exact (List.cons.inj h9).1.symm
   subst hcv2
   have q4:=q1.fr (w':=((((w4.setCell ⟨w.heap.size,0,none⟩ (.slice a1 n1 c1)).setCell ⟨w.heap.size,1,none⟩ (.slice a4 n4 c4)).setCell ⟨w.heap.size,2,none⟩ (.string ⟨#[]⟩)).setCell ⟨w.heap.size,3,none⟩ (.slice none 0 0))) (fun b hb => hT4.block b (q3 b hb).2 (by have:=(q3 b hb).1; omega))
   refine ⟨a1,n1,c1,a4,n4,c4,none,0,0,rfl,eq_fin (X:=w) (B:=w3.heap.size) (lo:=w.heap.size) (by omega) (Nat.le_trans hz4 hT4.size) (hn4.low (by omega)) (fun b hb => (World.ownsRow.lt (uh HM3) b hb).2) (uh HS40) (by simp; omega) (Nat.zero_le _) ⟨bs,[],q4,rowT_nil _,by simpa using q2,fun b hb => by have h8:=q3 b (by simpa using hb); have:=hT4.size; omega⟩,hp4.box hT4 (by omega),((uh HT3).trans ht4).new hT4 (Nat.le_refl _)⟩
  have y0:=hbr.cell (i:=0) (v:=.slice none 0 0) rfl
  have y1:=hbr.cell (i:=1) (v:=.slice none 0 0) rfl
  have y2:=hbr.cell (i:=2) (v:=.string ⟨#[]⟩) rfl
  have y3:=hbr.cell (i:=3) (v:=.slice none 0 0) rfl
  have g0:=hbr.free 0
  have g1:=hbr.free 1
  have g2:=hbr.free 2
  have g3:=hbr.free 3
  have lr:=hbr.lt
  have r0:=hr.cell (i:=0) (v:=.slice a1 n1 c1) rfl
  have r1:=hr.cell (i:=1) (v:=.slice a4 n4 c4) rfl
  have r2:=hr.cell (i:=2) (v:=.string ⟨#[]⟩) rfl
  have r3:=hr.cell (i:=3) (v:=.slice none 0 0) rfl
  clear hF4 hp4 ht4 hbr hT4 hr hz4 HCA
  go_wp2
  refine bodyPost_ret ?_ rfl (uh HF)
  simp [results,Tryz.results81,go_sem,r0,r1,r2,r3]
 ·have hkb : ((a.kind : Int) == 1) = false:=by rw [beq_eq_false_iff_ne]; omega
  clear hk hk1
  go_wp2_with (first | (go_at_call 48; refine (uh HA0).mono ?_; rintro e w3 ⟨p6,rfl,hp6,ht7⟩; have HCA:=hide (uh HCODE _ hp6); have HT3:=hide ((uh HT2).trans ht7); have HB3:=hide (ht7.blk (uh HB2) hne); have HM3:=hide ((uh HM2).ofBlock (fun b hb => ht7.block b (World.ownsRow.lt (uh HM2) b hb).2 (by have:=(World.ownsRow.lt (uh HM2) b hb).1; omega))); have hlw3:=(uh HB3).lt; clear hp6 ht7 HA0))
  go_wp2_with fail
  refine (uh HCA).mono ?_
  rintro e w4 ⟨a4,n4,c4,rfl,hF4,hp4,ht4⟩
  have hbr:=ht4.blk (uh HB3) hne
  have hT4:=Tr.set4 w.heap.size w4 (.slice a1 n1 c1) (.slice a4 n4 c4) (.string ⟨#[]⟩) (.slice none 0 0)
  have hr:=hbr.set4 (x:=.slice a1 n1 c1) (y:=.slice a4 n4 c4) (z:=.string ⟨#[]⟩) (u:=.slice none 0 0)
  have hz4:=ht4.size
  have HF : Hid (PO (.returned (.agg #[.slice a1 n1 c1,.slice a4 n4 c4,.string ⟨#[]⟩,.slice none 0 0])) ((((w4.setCell ⟨w.heap.size,0,none⟩ (.slice a1 n1 c1)).setCell ⟨w.heap.size,1,none⟩ (.slice a4 n4 c4)).setCell ⟨w.heap.size,2,none⟩ (.string ⟨#[]⟩)).setCell ⟨w.heap.size,3,none⟩ (.slice none 0 0))):=by
   show PO _ _
   rw [uh HPO]
   unfold PEq.eq
   simp only [if_pos (show (⟨#[]⟩ : ByteArray).size = 0 from rfl),List.headD_cons]
   have hn3:=((uh HM3).ofBlock (w':=w4) (fun b hb => ht4.block b (World.ownsRow.lt (uh HM3) b hb).2 (by have:=(World.ownsRow.lt (uh HM3) b hb).1; omega)))
   have hn4:=hn3.ofBlock (w':=((((w4.setCell ⟨w.heap.size,0,none⟩ (.slice a1 n1 c1)).setCell ⟨w.heap.size,1,none⟩ (.slice a4 n4 c4)).setCell ⟨w.heap.size,2,none⟩ (.string ⟨#[]⟩)).setCell ⟨w.heap.size,3,none⟩ (.slice none 0 0))) (fun b hb => hT4.block b (World.ownsRow.lt hn3 b hb).2 (by have:=(World.ownsRow.lt hn3 b hb).1; omega))
   obtain ⟨bs,⟨cv,hcv,q1⟩,q2,q3⟩:=hF4
   have hcv2 : cv = .slice a4 n4 c4:=by
    have h9 : [Value.slice a4 n4 c4] = [cv]:=hcv
    exact (List.cons.inj h9).1.symm
   subst hcv2
   have q4:=q1.fr (w':=((((w4.setCell ⟨w.heap.size,0,none⟩ (.slice a1 n1 c1)).setCell ⟨w.heap.size,1,none⟩ (.slice a4 n4 c4)).setCell ⟨w.heap.size,2,none⟩ (.string ⟨#[]⟩)).setCell ⟨w.heap.size,3,none⟩ (.slice none 0 0))) (fun b hb => hT4.block b (q3 b hb).2 (by have:=(q3 b hb).1; omega))
   refine ⟨a1,n1,c1,a4,n4,c4,none,0,0,rfl,eq_fin (X:=w) (B:=w3.heap.size) (lo:=w.heap.size) (by omega) (Nat.le_trans hz4 hT4.size) (hn4.low (by omega)) (fun b hb => (World.ownsRow.lt (uh HM3) b hb).2) (uh HS40) (by simp; omega) (Nat.zero_le _) ⟨bs,[],q4,rowT_nil _,by simpa using q2,fun b hb => by have h8:=q3 b (by simpa using hb); have:=hT4.size; omega⟩,hp4.box hT4 (by omega),((uh HT3).trans ht4).new hT4 (Nat.le_refl _)⟩
  have y0:=hbr.cell (i:=0) (v:=.slice none 0 0) rfl
  have y1:=hbr.cell (i:=1) (v:=.slice none 0 0) rfl
  have y2:=hbr.cell (i:=2) (v:=.string ⟨#[]⟩) rfl
  have y3:=hbr.cell (i:=3) (v:=.slice none 0 0) rfl
  have g0:=hbr.free 0
  have g1:=hbr.free 1
  have g2:=hbr.free 2
  have g3:=hbr.free 3
  have lr:=hbr.lt
  have r0:=hr.cell (i:=0) (v:=.slice a1 n1 c1) rfl
  have r1:=hr.cell (i:=1) (v:=.slice a4 n4 c4) rfl
  have r2:=hr.cell (i:=2) (v:=.string ⟨#[]⟩) rfl
  have r3:=hr.cell (i:=3) (v:=.slice none 0 0) rfl
  clear hF4 hp4 ht4 hbr hT4 hr hz4 HCA
  go_wp2
  refine bodyPost_ret ?_ rfl (uh HF)
  simp [results,Tryz.results81,go_sem,r0,r1,r2,r3]
end
end Go.Proofs.YtajabbnlbopcbaaGreatDoor
