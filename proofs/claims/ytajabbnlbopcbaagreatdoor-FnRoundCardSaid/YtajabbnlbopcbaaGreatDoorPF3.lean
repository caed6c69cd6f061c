import Derived.Test.YtajabbnlbopcbaaGreatDoorPF2
import Derived.Test.YtajabbnlbopcbaaGreatDoorOwnF
import Derived.Test.YtajabbnlbopcbaaGreatDoorShelfB
import Derived.WalkMore
import Derived.Test.YtajabbnlbopcbaaGreatDoorLX2
import Derived.Deep.AppendSrc
import Derived.Shelf.Pu.Clone
import Derived.Test.YtajabbnlbopcbaaGreatDoorData
import Derived.Test.YtajabbnlbopcbaaGreatDoorTxtB
import Derived.Deep.RegionWith
import Derived.RegionTactic
import Derived.Test.YtajabbnlbopcbaaGreatDoorImplName
namespace Go.Proofs.YtajabbnlbopcbaaGreatDoor
open Go.RowKit
set_option linter.unusedSimpArgs false
set_option linter.unusedVariables false
theorem kw_mem {s : ByteArray} (h : kwB s = true) : s ∈ kws:=by
 rw [← inB_kws,inB,List.any_eq_true] at h
 obtain ⟨x,hx,he⟩:=h
 rw [beq_iff_eq,ByteArray.toList_eq,ByteArray.toList_eq] at he
 have : x = s:=ByteArray.ext (Array.toList_inj.1 he)
 exact this ▸ hx
theorem kws_parts : ∀ x ∈ kws,(1 ≤ x.size ∧ x.size ≤ 7) ∧ letB (byt x 0) = true ∧ ∀ j,j < x.size → wordB (byt x j) = true:=by decide
def syL : List ByteArray:=[⟨#[40]⟩,⟨#[41]⟩,⟨#[58]⟩,⟨#[59]⟩,⟨#[44]⟩,⟨#[61]⟩,⟨#[60,62]⟩,⟨#[60]⟩,⟨#[60,61]⟩,⟨#[62]⟩,⟨#[62,61]⟩,⟨#[43]⟩,⟨#[45]⟩,⟨#[42]⟩,⟨#[47]⟩]
theorem sy_mem {s : ByteArray} (h : symB s = true) : s ∈ syL:=by
 have e : symB s = (syL.map (fun x => x.data.toList)).any (fun x => s.data.toList == x):=rfl
 rw [e,List.any_eq_true] at h
 obtain ⟨l,hl,he⟩:=h
 obtain ⟨x,hx,rfl⟩:=List.mem_map.1 hl
 rw [beq_iff_eq] at he
 have : s = x:=ByteArray.ext (Array.toList_inj.1 he)
 exact this ▸ hx
theorem sy_parts : ∀ x ∈ syL,(x.size = 1 ∨ x.size = 2) ∧ wordB (byt x 0) = false ∧ blankB (byt x 0) = false ∧ (x.size = 2 → (byt x 0 = 60 ∧ (byt x 1 = 62 ∨ byt x 1 = 61)) ∨ (byt x 0 = 62 ∧ byt x 1 = 61)):=by decide
theorem wf_size {p : Pc} (h : wfP p) : 1 ≤ p.text.size:=by
 rcases h with ⟨_,_,h | h⟩ | ⟨_,_,h⟩ | ⟨_,h0,_,h⟩ | ⟨_,_,h⟩
 ·rw [h]; decide
 ·rw [h]; decide
 ·exact (plain_parts h).1.1
 ·obtain ⟨u,_,e⟩:=dcT_at h0
  rw [h,e]
  exact dcN_pos u
 ·rw [Bool.or_eq_true] at h
  rcases h with h | h
  ·exact (kws_parts _ (kw_mem h)).1.1
  ·have:=(sy_parts _ (sy_mem h)).1
   omega
theorem hd_fl {ps : List Pc} (h : ∀ p ∈ ps,wfP p) : hdB ps 0 = byt (flP ps) 0:=by
 cases ps with
 | nil => rfl
 | cons p r => exact (byt_left (wf_size (h p (List.mem_cons_self ..)))).symm
theorem byt_mid (a t b : ByteArray) {k : Nat} (h : k < t.size) : byt (a ++ (t ++ b)) (a.size + k) = byt t k:=by
 rw [byt_right,byt_left h]
theorem byt_next (a t b : ByteArray) : byt (a ++ (t ++ b)) (a.size + t.size) = byt b 0:=by
 rw [byt_right]
 have:=byt_right (a:=t) (b:=b) 0
 rwa [Nat.add_zero] at this
theorem byt_extr {s : ByteArray} {i j k : Nat} (hj : j ≤ s.size) (h : i + k < j) : byt (s.extract i j) k = byt s (i + k):=by
 have h1 : k < (s.extract i j).size:=by simp [ByteArray.size_extract]; omega
 rw [byt_lt h1,byt_lt (show i + k < s.size by omega),ByteArray.getElem_extract]
set_option maxHeartbeats 1000000 in
theorem tokenAt_ok (a b : ByteArray) (p : Pc) (w : World) (hs : Len (a ++ (p.text ++ b)).size) (hk : ¬ p.kind = 0) (hp : wfP p) (ho : okN p.kind p.text (byt b 0) = true) :
  Calls Tryz.prog 46 #[.string (a ++ (p.text ++ b)),.int .i64 a.size] w (TkAns p.kind p.text p.val a.size w):=by
 have hz : (a ++ (p.text ++ b)).size = a.size + (p.text.size + b.size):=by rw [ba_size,ba_size]
 have h1:=wf_size hp
 have hex:=ext_mid a p.text b
 have hb:=fun k (h : k < p.text.size) => byt_mid a p.text b h
 have hn:=byt_next a p.text b
 obtain ⟨kd,tx,vl⟩:=p
 simp only at *
 generalize a ++ (tx ++ b) = s at *
 obtain ⟨W,hW⟩ : ∃ W,W = w.alloc (.cells #[.int .i64 0,.string ⟨#[]⟩,.int .i64 0,.int .i64 0] 105):=⟨_,rfl⟩
 have HP0 : Hid (Below w.heap.size w W):=hW ▸ (Below.refl _ _).alloc (Nat.le_refl _) _
 have HZ : Hid (BlkAt W w.heap.size 105 #[.int .i64 0,.string ⟨#[]⟩,.int .i64 0,.int .i64 0]):=hW ▸ blk_box _ _ _
 have hlt : a.size < s.size:=by omega
 have hbd:=u8_bd s[a.size]
 have eb0 : (s[a.size].toNat : Int) = byt tx 0:=by rw [← byt_lt hlt]; exact hb 0 (by omega)
 have hs9:=hs
 unfold Len at hs9
 have HWW:=hide hW
 clear hW
 have key : (letB (byt tx 0) = true ∧ Calls Tryz.prog 68 #[.string s,.int .i64 a.size] W (TkAns kd tx vl a.size W)) ∨ (letB (byt tx 0) = false ∧ digB (byt tx 0) = true ∧ Calls Tryz.prog 70 #[.string s,.int .i64 a.size] W (TkAns kd tx vl a.size W)) ∨ (letB (byt tx 0) = false ∧ digB (byt tx 0) = false ∧ Calls Tryz.prog 71 #[.string s,.int .i64 a.size] W (TkAns kd tx vl a.size W)):=by
  have word : ∀ (h40 : tx.size ≤ 40) (hl : letB (byt tx 0) = true) (hw : ∀ j,j < tx.size → wordB (byt tx j) = true),Calls Tryz.prog 68 #[.string s,.int .i64 a.size] W (TkAns (if kwB tx = true then 3 else 1) tx 0 a.size W):=by
   intro h40 hl hw
   have h9:=wordAt_ok s a.size (a.size + tx.size) W hs (by omega) (by omega) (fun k h1 h2 => by
    have:=hb (k - a.size) (by omega)
    rw [show a.size + (k - a.size) = k by omega] at this
    rw [this]
    exact hw _ (by omega)) (by
    rw [hn]
    unfold okN at ho
    rw [if_pos (let_word hl)] at ho
    simpa [hk] using ho) (by omega)
   rw [hex] at h9
   exact h9
  rcases hp with ⟨h0,_⟩ | ⟨h0,hv,hpl⟩ | ⟨h0,hv1,hv2,ht⟩ | ⟨h0,hv,hf⟩
  ·exact absurd h0 hk
  ·have hp:=plain_parts hpl
   refine Or.inl ⟨hp.2.1,?_⟩
   have h9:=word hp.1.2 hp.2.1 hp.2.2.2
   simp only at h0 hv
   rw [hp.2.2.1] at h9
   rw [h0,hv]
   exact h9
  ·simp only at h0 hv1 hv2 ht
   obtain ⟨u,hu,e⟩:=dcT_at hv1
   rw [e] at ht
   have hd : ∀ k,k < tx.size → digB (byt tx k) = true:=fun k hk => by rw [ht] at hk ⊢; exact dcN_dig u k hk
   have hd0:=hd 0 (by omega)
   have hl : letB (byt tx 0) = false:=by
    have h9 : 48 ≤ byt tx 0 ∧ byt tx 0 ≤ 57:=by simpa [digB] using hd0
    unfold letB
    rw [decide_eq_false_iff_not]
    omega
   have hnu : numTo tx tx.size = vl:=by rw [ht,dcN_num,hu]
   refine Or.inr (Or.inl ⟨hl,hd0,?_⟩)
   have h9:=numberAt_ok s tx a.size W hs (by omega) hex hb hd (by rw [hnu]; exact hv2) (by
    rw [hn]
    unfold okN at ho
    rw [if_pos (dig_word hd0)] at ho
    have h8 : wordB (byt b 0) = false:=by simpa [hk] using ho
    cases hq : digB (byt b 0)
    ·rfl
    ·rw [dig_word hq] at h8; cases h8)
   rw [hnu] at h9
   rw [h0]
   exact h9
  ·simp only at h0 hv hf
   rw [Bool.or_eq_true] at hf
   cases hkw : kwB tx
   ·have hy : symB tx = true:=by rw [hkw] at hf; simpa using hf
    have hp:=sy_parts _ (sy_mem hy)
    have hl : letB (byt tx 0) = false:=by
     cases hq : letB (byt tx 0)
     ·rfl
     ·have:=hp.2.1; rw [let_word hq] at this; cases this
    have hdg : digB (byt tx 0) = false:=by
     cases hq : digB (byt tx 0)
     ·rfl
     ·have:=hp.2.1; rw [dig_word hq] at this; cases this
    refine Or.inr (Or.inr ⟨hl,hdg,?_⟩)
    rw [h0,hv]
    refine symbolAt_ok s tx a.size W hs hp.1 (by omega) hex hy ?_
    intro e1 e2
    cases hq : symB (s.extract a.size (a.size + 2))
    ·rfl
    ·exfalso
     have hp2:=sy_parts _ (sy_mem hq)
     have hsz : (s.extract a.size (a.size + 2)).size = 2:=by simp [ByteArray.size_extract]; omega
     have q0 : byt (s.extract a.size (a.size + 2)) 0 = byt tx 0:=by rw [byt_extr (by omega) (by omega)]; exact hb 0 (by omega)
     have q1 : byt (s.extract a.size (a.size + 2)) 1 = byt b 0:=by rw [byt_extr (by omega) (by omega),← hn,e1]
     have h3:=hp2.2.2.2 hsz
     rw [q0,q1] at h3
     unfold okN at ho
     rw [hp.2.1] at ho
     simp only [h0,e1] at ho
     rcases h3 with ⟨g1,g2 | g2⟩ | ⟨g1,g2⟩ <;> rw [g1,g2] at ho <;> exact absurd ho (by decide)
   ·have hp:=kws_parts _ (kw_mem hkw)
    refine Or.inl ⟨hp.2.1,?_⟩
    have h9:=word (by omega) hp.2.1 hp.2.2
    rw [hkw] at h9
    rw [h0,hv]
    exact h9
 have z0:=(uh HZ).cell (i:=0) (v:=.int .i64 0) rfl
 have z1:=(uh HZ).cell (i:=1) (v:=.string ⟨#[]⟩) rfl
 have z2:=(uh HZ).cell (i:=2) (v:=.int .i64 0) rfl
 have z3:=(uh HZ).cell (i:=3) (v:=.int .i64 0) rfl
 have lz:=(uh HZ).lt
 obtain ⟨PO,hPO⟩ : ∃ PO : Ending → World → Prop,PO = TkAns kd tx vl a.size w:=⟨_,rfl⟩
 rw [← hPO]
 have fin : ∀ X,Below W.heap.size W X → BlkAt X w.heap.size 105 #[.int .i64 0,.string ⟨#[]⟩,.int .i64 0,.int .i64 0] ∧ ∀ Y,Y = ((((X.setCell ⟨w.heap.size,0,none⟩ (.int .i64 kd)).setCell ⟨w.heap.size,1,none⟩ (.string tx)).setCell ⟨w.heap.size,2,none⟩ (.int .i64 vl)).setCell ⟨w.heap.size,3,none⟩ (.int .i64 a.size)) → BlkAt Y w.heap.size 105 #[.int .i64 kd,.string tx,.int .i64 vl,.int .i64 a.size] ∧ PO (.returned (tokV kd tx vl a.size)) Y:=by
  intro X hX
  have hZX:=(uh HZ).below hX (uh HZ).lt
  refine ⟨hZX,?_⟩
  rintro Y rfl
  have hB:=blk_set4 (x0:=.int .i64 kd) (x1:=.string tx) (x2:=.int .i64 vl) (x3:=.int .i64 a.size) hZX ((uh HP0).trans (hX.mono (uh HP0).size)) (Nat.le_refl _)
  exact ⟨hB.1,by rw [hPO]; exact ⟨rfl,hB.2⟩⟩
 have HF:=hide fin
 have HKEY:=hide key
 rw [← eb0] at HKEY
 clear fin key hPO hp ho hex hb hn hz eb0 hk hs
 rcases uh HKEY with ⟨k1,k2⟩ | ⟨k1,k2,k3⟩ | ⟨k1,k2,k3⟩
 ·have HC:=hide k2
  clear k2 HKEY
  go_enter Tryz.func46,Tryz.ntmps46
  go_wp2_with (first | (go_at_call 67; rw [← uh HWW]; refine (isLetter_ok _ _ (by omega) (by omega)).mono ?_; rintro e w' ⟨rfl,rfl⟩; rw [k1]))
  go_wp2_with fail
  refine (uh HC).mono ?_
  rintro e w1 ⟨rfl,hb1⟩
  obtain ⟨hB1,hB2⟩:=uh HF _ hb1
  have g0:=hB1.free 0
  have g1:=hB1.free 1
  have g2:=hB1.free 2
  have g3:=hB1.free 3
  have y0:=hB1.cell (i:=0) (v:=.int .i64 0) rfl
  have y1:=hB1.cell (i:=1) (v:=.string ⟨#[]⟩) rfl
  have y2:=hB1.cell (i:=2) (v:=.int .i64 0) rfl
  have y3:=hB1.cell (i:=3) (v:=.int .i64 0) rfl
  have l1:=hB1.lt
  obtain ⟨hC1,hC2⟩:=hB2 _ rfl
  have c0:=hC1.cell (i:=0) (v:=.int .i64 kd) rfl
  have c1:=hC1.cell (i:=1) (v:=.string tx) rfl
  have c2:=hC1.cell (i:=2) (v:=.int .i64 vl) rfl
  have c3:=hC1.cell (i:=3) (v:=.int .i64 a.size) rfl
  have HC2:=hide hC2
  clear hB1 hB2 hC1 hC2 hb1
  unfold tokV
  go_wp2
  exact bodyPost_ret (v:=tokV kd tx vl a.size) (by simp [results,Tryz.results46,go_sem,c0,c1,c2,c3,tokV]) rfl (uh HC2)
 ·have HC:=hide k3
  clear k3 HKEY
  go_enter Tryz.func46,Tryz.ntmps46
  go_wp2_with (first | (go_at_call 67; rw [← uh HWW]; refine (isLetter_ok _ _ (by omega) (by omega)).mono ?_; rintro e w' ⟨rfl,rfl⟩; rw [k1]) | (go_at_call 69; refine (isDigit_ok _ _ (by omega) (by omega)).mono ?_; rintro e w' ⟨rfl,rfl⟩; rw [k2]))
  go_wp2_with fail
  refine (uh HC).mono ?_
  rintro e w1 ⟨rfl,hb1⟩
  obtain ⟨hB1,hB2⟩:=uh HF _ hb1
  have g0:=hB1.free 0
  have g1:=hB1.free 1
  have g2:=hB1.free 2
  have g3:=hB1.free 3
  have y0:=hB1.cell (i:=0) (v:=.int .i64 0) rfl
  have y1:=hB1.cell (i:=1) (v:=.string ⟨#[]⟩) rfl
  have y2:=hB1.cell (i:=2) (v:=.int .i64 0) rfl
  have y3:=hB1.cell (i:=3) (v:=.int .i64 0) rfl
  have l1:=hB1.lt
  obtain ⟨hC1,hC2⟩:=hB2 _ rfl
  have c0:=hC1.cell (i:=0) (v:=.int .i64 kd) rfl
  have c1:=hC1.cell (i:=1) (v:=.string tx) rfl
  have c2:=hC1.cell (i:=2) (v:=.int .i64 vl) rfl
  have c3:=hC1.cell (i:=3) (v:=.int .i64 a.size) rfl
  have HC2:=hide hC2
  clear hB1 hB2 hC1 hC2 hb1
  unfold tokV
  go_wp2
  exact bodyPost_ret (v:=tokV kd tx vl a.size) (by simp [results,Tryz.results46,go_sem,c0,c1,c2,c3,tokV]) rfl (uh HC2)
 ·have HC:=hide k3
  clear k3 HKEY
  go_enter Tryz.func46,Tryz.ntmps46
  go_wp2_with (first | (go_at_call 67; rw [← uh HWW]; refine (isLetter_ok _ _ (by omega) (by omega)).mono ?_; rintro e w' ⟨rfl,rfl⟩; rw [k1]) | (go_at_call 69; refine (isDigit_ok _ _ (by omega) (by omega)).mono ?_; rintro e w' ⟨rfl,rfl⟩; rw [k2]))
  go_wp2_with fail
  refine (uh HC).mono ?_
  rintro e w1 ⟨rfl,hb1⟩
  obtain ⟨hB1,hB2⟩:=uh HF _ hb1
  have g0:=hB1.free 0
  have g1:=hB1.free 1
  have g2:=hB1.free 2
  have g3:=hB1.free 3
  have y0:=hB1.cell (i:=0) (v:=.int .i64 0) rfl
  have y1:=hB1.cell (i:=1) (v:=.string ⟨#[]⟩) rfl
  have y2:=hB1.cell (i:=2) (v:=.int .i64 0) rfl
  have y3:=hB1.cell (i:=3) (v:=.int .i64 0) rfl
  have l1:=hB1.lt
  obtain ⟨hC1,hC2⟩:=hB2 _ rfl
  have c0:=hC1.cell (i:=0) (v:=.int .i64 kd) rfl
  have c1:=hC1.cell (i:=1) (v:=.string tx) rfl
  have c2:=hC1.cell (i:=2) (v:=.int .i64 vl) rfl
  have c3:=hC1.cell (i:=3) (v:=.int .i64 a.size) rfl
  have HC2:=hide hC2
  clear hB1 hB2 hC1 hC2 hb1
  unfold tokV
  go_wp2
  exact bodyPost_ret (v:=tokV kd tx vl a.size) (by simp [results,Tryz.results46,go_sem,c0,c1,c2,c3,tokV]) rfl (uh HC2)
abbrev TK:=Pc × Int
def elTok : ElF Tryz.prog TK where
 T:=105
 ST:=80
 sz:=4
 byt:=40
 f:=fun x => [.int .i64 x.1.kind,.string x.1.text,.int .i64 x.1.val,.int .i64 x.2]
 z:=.agg #[.int .i64 0,.string ByteArray.empty,.int .i64 0,.int .i64 0]
 hT:=Tryz.underlying80
 hi:=by kernel_rfl
 hz:=rfl
 hf:=fun _ => rfl
 h1:=fun c u hu => by
  simp only [List.mem_cons,List.not_mem_nil,or_false] at hu
  rcases hu with rfl | rfl | rfl | rfl <;> rfl
 hsz:=by decide
 hby:=by decide
def endP : Pc:=⟨0,⟨#[]⟩,0⟩
theorem noDash (a t b : ByteArray) (k : Nat) (h1 : 1 ≤ t.size) (hk : ¬ k = 0) (ho : okN k t (byt b 0) = true) (hw : t.size = 1 ∨ ¬ byt t 0 = 45) : Lib.hasPrefix ((a ++ (t ++ b)).extract a.size (a ++ (t ++ b)).size).data.toList [45,45] = false:=by
 cases hq : Lib.hasPrefix ((a ++ (t ++ b)).extract a.size (a ++ (t ++ b)).size).data.toList [45,45]
 ·rfl
 ·exfalso
  have e : ((a ++ (t ++ b)).extract a.size (a ++ (t ++ b)).size).data.toList = (t ++ b).data.toList:=by
   have:=ext_mid a (t ++ b) ByteArray.empty
   rw [ba_nil,← ba_size] at this
   rw [this]
  rw [e] at hq
  unfold Lib.hasPrefix at hq
  rw [List.isPrefixOf_iff_prefix] at hq
  obtain ⟨r,hr⟩:=hq
  have hsz : (t ++ b).data.toList.length = (t ++ b).size:=Array.length_toList ..
  have h2 : 2 ≤ (t ++ b).size:=by rw [← hsz,← hr]; simp
  have hg : ∀ i (h : i < (t ++ b).size),byt (t ++ b) i = (((t ++ b).data.toList[i]'(by rw [hsz]; exact h)).toNat : Int):=fun i h => by rw [byt_lt h]; rfl
  have q0:=hg 0 (by omega)
  have q1:=hg 1 (by omega)
  simp only [← hr] at q0 q1
  have q0' : byt (t ++ b) 0 = 45:=q0
  have q1' : byt (t ++ b) 1 = 45:=q1
  rw [byt_left (by omega)] at q0'
  have e1 : t.size = 1:=by rcases hw with h | h; exact h; exact absurd q0' h
  have q2:=byt_right (a:=t) (b:=b) 0
  rw [e1] at q2
  have q3 : byt b 0 = 45:=by rw [← q2]; exact q1'
  unfold okN at ho
  rw [q0',q3] at ho
  rw [if_neg (by decide)] at ho
  simp [hk] at ho
theorem wf_dash {p : Pc} (h : wfP p) : p.text.size = 1 ∨ ¬ byt p.text 0 = 45:=by
 rcases h with ⟨_,_,h | h⟩ | ⟨_,_,h⟩ | ⟨_,h0,_,h⟩ | ⟨_,_,h⟩
 ·left; rw [h]; rfl
 ·left; rw [h]; rfl
 ·right
  intro e
  have:=(plain_parts h).2.1
  rw [e] at this
  exact absurd this (by decide)
 ·right
  intro e
  have:=hd_nu h0
  rw [← h,e] at this
  exact absurd this (by decide)
 ·rw [Bool.or_eq_true] at h
  rcases h with h | h
  ·right
   intro e
   have:=(kws_parts _ (kw_mem h)).2.1
   rw [e] at this
   exact absurd this (by decide)
  ·have h9 : ∀ x ∈ syL,x.size = 1 ∨ ¬ byt x 0 = 45:=by decide
   exact h9 _ (sy_mem h)
theorem wf_blank {p : Pc} (h : wfP p) (hk : ¬ p.kind = 0) : blankB (byt p.text 0) = false:=by
 have word : ∀ c : Int,wordB c = true → blankB c = false:=fun c hc => by
  unfold blankB
  rw [decide_eq_false_iff_not]
  rintro (e | e | e | e) <;> rw [e] at hc <;> exact absurd hc (by decide)
 rcases h with ⟨h0,_⟩ | ⟨_,_,h⟩ | ⟨_,h0,_,h⟩ | ⟨_,_,h⟩
 ·exact absurd h0 hk
 ·exact word _ (hd_nm h)
 ·rw [h]; exact word _ (hd_nu h0)
 ·rw [Bool.or_eq_true] at h
  rcases h with h | h
  ·exact word _ (let_word (kws_parts _ (kw_mem h)).2.1)
  ·exact (sy_parts _ (sy_mem h)).2.2.1
theorem tk_len (ps : List Pc) (h : ∀ p ∈ ps,wfP p) : (tkP ps).length ≤ (flP ps).size:=by
 induction ps with
 | nil => simp [tkP]
 | cons p r ih =>
  have h1:=wf_size (h p (List.mem_cons_self ..))
  have h2:=ih (fun x hx => h x (List.mem_cons_of_mem _ hx))
  rw [flP,ba_size]
  have h3 : (tkP (p :: r)).length ≤ 1 + (tkP r).length:=by
   unfold tkP
   rw [List.filter_cons]
   split <;> simp <;> omega
  omega
def CutPost (ps : List Pc) (w : World) (e : Ending) (w' : World) : Prop:=∃ a c xs,e = .returned (.slice a xs.length c) ∧ OwnV elTok w' w.heap.size (.slice a xs.length c) xs ∧ xs.map (·.1) = tkP ps ++ [endP] ∧ Below w.heap.size w w'
set_option maxHeartbeats 4000000 in
theorem cut_ok (ps : List Pc) (w : World) (hg : gdP ps 0) (hs : (flP ps).size ≤ 20000) : Calls Tryz.prog 28 #[.string (flP ps)] w (CutPost ps w):=by
 have HWF:=hide (gdP_wf hg)
 have HGD:=hide hg
 have htl:=tk_len ps (gdP_wf hg)
 obtain ⟨PO,hPO⟩ : ∃ PO : Ending → World → Prop,PO = CutPost ps w:=⟨_,rfl⟩
 rw [← hPO]
 have HPO:=hide hPO
 clear hPO hg
 obtain ⟨s,hsx⟩ : ∃ s,s = flP ps:=⟨_,rfl⟩
 rw [← hsx] at hs htl ⊢
 have HSX:=hide hsx
 clear hsx
 go_enter Tryz.func28,Tryz.ntmps28
 go_wp2
 go_step3
 go_wp2
 go_step3
 go_wp2
 go_loopg [3,4] ps.length (fun g tv x wr => ∃ (pre rest : List Pc) (xs : List TK),ps = pre ++ rest ∧ g = rest.length ∧ x = .int .i64 (flP pre).size ∧ OwnV elTok wr w.heap.size tv xs ∧ xs.map (·.1) = tkP pre ∧ Below w.heap.size w wr)
 case atStart => exact ⟨[],ps,[],rfl,rfl,rfl,OwnV.nil _ _,rfl,Below.refl _ _⟩
 case round =>
  obtain ⟨pre,rest,xs,hps,hg,rfl,hown,hxs,hbl⟩:=hrel
  have HG:=hide hg
  have HO:=hide hown
  have HXS:=hide hxs
  have HB:=hide hbl
  have hsplit : s = flP pre ++ flP rest:=by rw [uh HSX,hps,flP_app]
  have hxl : xs.length ≤ 20000:=by
   have h1 : xs.length = (tkP pre).length:=by rw [← hxs,List.length_map]
   have h2 : (tkP pre).length ≤ (tkP ps).length:=by rw [hps,tkP_app,List.length_append]; omega
   omega
  obtain ⟨ta,tc,rfl⟩:=hown.slice
  clear hg hown hxs hbl
  cases rest with
  | nil =>
   have hz : (flP pre).size = s.size:=by rw [hsplit]; show _ = (flP pre ++ ByteArray.empty).size; rw [ba_nil]
   have HPS:=hide hps
   rw [hz]
   clear hps hsplit hz
   have P1 : Hid (Below wr.heap.size wr (wr.alloc (.cells #[.int .i64 0,.string ⟨#[]⟩,.int .i64 0,.int .i64 s.size] 105))):=(Below.refl _ _).alloc (Nat.le_refl _) _
   have HO1:=hide ((uh HO).below (uh P1))
   have hsz:=(uh HB).size
   go_wp2_with (at_builtin; go_must (refine wpList_append_oneF elTok _ rfl _ _ rfl w.heap.size _ xs rfl (uh HO1) wr.heap.size (endP,(s.size : Int)) rfl (fun j u hu => by rw [World.cell?_alloc_at _ _ _ _ rfl]; simpa [elTok,endP] using hu) (by simp [elTok]; omega) (by simp; omega) ?_))
   intro v2 w2 hown2 hgr2
   have hb2:=(uh HO1).grown ((uh HB).trans ((uh P1).mono hsz)) hgr2 (by simp; omega) (Nat.le_refl _)
   obtain ⟨a2,c2,rfl⟩:=hown2.slice
   have HF : Hid (PO (.returned (.slice a2 (xs ++ [(endP,(s.size : Int))]).length c2)) w2):=by
    show PO _ _
    rw [uh HPO]
    refine ⟨a2,c2,xs ++ [(endP,(s.size : Int))],rfl,hown2,?_,hb2⟩
    have e:=uh HPS
    rw [List.append_nil] at e
    rw [List.map_append,uh HXS,e]
    rfl
   clear hown2 hgr2 hb2 HO1
   generalize (xs ++ [(endP,(s.size : Int))]).length = n2 at *
   go_wp2
   exact uh HF
  | cons p r =>
   have hwf : wfP p:=uh HWF p (by rw [hps]; simp)
   have hgd : okN p.kind p.text (byt (flP r) 0) = true:=by
    have h1:=uh HGD
    rw [hps] at h1
    have h2:=(gdP_app _ _ _).1 h1
    have h3:=h2.2.2.1
    rw [hd_fl (gdP_wf h2.2.2.2)] at h3
    exact h3
   have hp1:=wf_size hwf
   rw [flP] at hsplit
   have hsz : s.size = (flP pre).size + (p.text.size + (flP r).size):=by rw [hsplit,ba_size,ba_size]
   have hlt : (flP pre).size < s.size:=by omega
   have hbd:=u8_bd s[(flP pre).size]
   have eb0 : (s[(flP pre).size].toNat : Int) = byt p.text 0:=by
    rw [← byt_lt hlt,hsplit]
    exact byt_mid (flP pre) p.text (flP r) (k:=0) (by omega)
   have HN : Hid (ps = (pre ++ [p]) ++ r ∧ (flP (pre ++ [p])).size = (flP pre).size + p.text.size):=by
    refine ⟨by rw [hps]; simp,?_⟩
    rw [flP_app,ba_size,fl1]
   by_cases hk : p.kind = 0
   ·have hb0 : blankB (s[(flP pre).size].toNat : Int) = true ∧ p.text.size = 1:=by
     rw [eb0]
     rcases hwf with ⟨_,_,h | h⟩ | ⟨h,_⟩ | ⟨h,_⟩ | ⟨h,_⟩
     ·rw [h]; decide
     ·rw [h]; decide
     ·omega
     ·omega
     ·omega
    obtain ⟨hb0,hp9⟩:=hb0
    have HT : Hid (tkP (pre ++ [p]) = tkP pre):=by
     show tkP (pre ++ [p]) = tkP pre
     rw [tkP_app]
     have : tkP [p] = []:=by unfold tkP; simp [hk]
     rw [this,List.append_nil]
    have HP9:=hide hp9
    clear hps hsplit eb0 hgd hwf hp1 hk hp9 hsz
    generalize (flP pre).size = i at *
    go_wp2_with (first | (go_at_call 44; refine (isBlank_ok _ _ (by omega) (by omega)).mono ?_; rintro e w' ⟨rfl,rfl⟩; rw [hb0]))
    go_roundg r.length
    case measure => have:=uh HG; simp at this; omega
    case rel => exact ⟨pre ++ [p],r,xs,(uh HN).1,rfl,by rw [(uh HN).2,uh HP9]; go_num,uh HO,by rw [uh HT]; exact uh HXS,uh HB⟩
   ·have hb0 : blankB (s[(flP pre).size].toNat : Int) = false:=by rw [eb0]; exact wf_blank hwf hk
    have hnd:=noDash (flP pre) p.text (flP r) p.kind hp1 hk hgd (wf_dash hwf)
    have hta:=tokenAt_ok (flP pre) (flP r) p wr (by rw [← hsplit]; unfold Len; omega) hk hwf hgd
    rw [← hsplit] at hnd hta
    have hHP:=Tryz.strings_HasPrefix (s.extract (flP pre).size s.size) ⟨#[45,45]⟩ wr
    have hnd' : Lib.hasPrefix (s.extract (flP pre).size s.size).data.toList (⟨#[45,45]⟩ : ByteArray).data.toList = false:=hnd
    rw [hnd'] at hHP
    have HHP:=hide hHP
    have HTA:=hide hta
    have HT : Hid (tkP (pre ++ [p]) = tkP pre ++ [p]):=by
     show tkP (pre ++ [p]) = tkP pre ++ [p]
     rw [tkP_app]
     have : tkP [p] = [p]:=by unfold tkP; simp [hk]
     rw [this]
    have hp9 : p.text.size ≤ 20000:=by omega
    clear hps hsplit eb0 hgd hwf hk hsz hnd hnd' hHP hta hp1
    obtain ⟨kd,tx,vl⟩:=p
    simp only at *
    generalize hii : (flP pre).size = i at *
    have HII:=hide hii
    clear hii
    go_wp2_with (first | (go_at_call 44; refine (isBlank_ok _ _ (by omega) (by omega)).mono ?_; rintro e w' ⟨rfl,rfl⟩; rw [hb0]) | (go_at_call 45; refine (uh HHP).mono ?_; rintro e w' ⟨rfl,rfl⟩))
    go_wp2_with fail
    refine (uh HTA).mono ?_
    rintro e w1 ⟨rfl,hb1⟩
    unfold tokV
    have P1 : Below w1.heap.size w1 (w1.alloc (.cells #[.int .i64 kd,.string tx,.int .i64 vl,.int .i64 i] 105)):=(Below.refl _ _).alloc (Nat.le_refl _) _
    have P2 : Below (w1.alloc (.cells #[.int .i64 kd,.string tx,.int .i64 vl,.int .i64 i] 105)).heap.size (w1.alloc (.cells #[.int .i64 kd,.string tx,.int .i64 vl,.int .i64 i] 105)) ((w1.alloc (.cells #[.int .i64 kd,.string tx,.int .i64 vl,.int .i64 i] 105)).alloc (.cells #[.int .i64 kd,.string tx,.int .i64 vl,.int .i64 i] 105)):=(Below.refl _ _).alloc (Nat.le_refl _) _
    have P3:=hb1.trans (P1.mono hb1.size)
    have P4:=P3.trans (P2.mono P3.size)
    have hbx : BlkAt ((w1.alloc (.cells #[.int .i64 kd,.string tx,.int .i64 vl,.int .i64 i] 105)).alloc (.cells #[.int .i64 kd,.string tx,.int .i64 vl,.int .i64 i] 105)) w1.heap.size 105 #[.int .i64 kd,.string tx,.int .i64 vl,.int .i64 i]:=(blk_box w1 _ _).below P2 (by simp)
    have HO1:=hide ((uh HO).below P4)
    have hz1:=hb1.size
    have hzw:=(uh HB).size
    have HB4:=hide ((uh HB).trans (P4.mono hzw))
    have HBX:=hide hbx
    clear hb1 P1 P2 P3 P4 hbx
    go_wp2_with (at_builtin; go_must (refine wpList_append_oneF elTok _ rfl _ _ rfl w.heap.size _ xs rfl (uh HO1) (w1.heap.size + 1) (⟨kd,tx,vl⟩,(i : Int)) rfl (fun j u hu => by rw [World.cell?_alloc_at _ _ _ _ (by simp)]; simpa [elTok] using hu) (by simp [elTok]; omega) (by simp; omega) ?_))
    intro v2 w2 hown2 hgr2
    have hb2:=(uh HO1).grown (uh HB4) hgr2 (by simp; omega) (Nat.le_refl _)
    have hbx2 : BlkAt w2 w1.heap.size 105 #[.int .i64 kd,.string tx,.int .i64 vl,.int .i64 i]:=(hgr2.block _ (uh HBX).lt (fun e => by
     have:=World.ownsRow.lt (uh HO) w1.heap.size e.symm
     omega)).trans (uh HBX)
    have k1:=hbx2.cell (i:=1) (v:=.string tx) rfl
    have HO2:=hide hown2
    have HB2:=hide hb2
    obtain ⟨a2,c2,rfl⟩:=hown2.slice
    clear hown2 hgr2 hb2 hbx2 HO1 HBX HB4
    go_wp2
    go_roundg r.length
    case measure => have:=uh HG; simp at this; omega
    case rel => exact ⟨pre ++ [⟨kd,tx,vl⟩],r,xs ++ [(⟨kd,tx,vl⟩,(i : Int))],(uh HN).1,rfl,by rw [(uh HN).2]; go_num,uh HO2,by rw [uh HT,List.map_append,uh HXS]; rfl,uh HB2⟩
theorem run_append_new {P : Program} {w : World} (base : Nat) (t ty e : TypeId) (i : TypeInfo) (z : Value) (size bytes : Nat) (ht : P.underlying t = some (.slice e)) (hi : P.info? e = some i) (hz : i.zero = some z)
  (hsize : i.size = size) (hby : i.bytes = bytes) (hzs : z.cells.size = size) (hsz : 0 < size)
  (v : Value) (n : Nat) (xs : List Value) (hown : w.ownsRow base e size v n xs)
  (a : Addr) (m c : Nat) (news : List Value) (hl : news.length = m * size) (hnews : ∀ j u,news[j]? = some u → w.cell? (a.add j) = some u) (h1 : ∀ u ∈ news,u.oneCell' = true)
  (h63 : n + m ≤ maxLen) (hbytes : (n + m) * bytes ≤ 140737488355328) (hbase : base ≤ w.heap.size) :
  ∃ v' w',(Builtin.append_ #[t,t] ty #[v,.slice (some a) m c]).run P w = .ok v' w' ∧ w'.ownsRow base e size v' (n + m) (xs ++ news) ∧ w.grownBy w' v.ownBlock ∧ (∀ b,v'.ownBlock = some b → v.ownBlock = some b ∨ w.heap.size ≤ b):=by
 obtain ⟨v',w',hr,h2,h3,_⟩:=run_append_own (P:=P) w base t ty e i z size bytes ht hi hz hsize hby hzs hsz v n xs hown a m c news hl hnews h1 h63 hbytes hbase
 refine ⟨v',w',hr,h2,h3,fun b hb => ?_⟩
 rcases hown.2 with ⟨rfl,rfl⟩ | ⟨g,cap,cur,rfl,hbg,hg,hnc,hcm,hcs,htake⟩
 ·have hown2 : w.ownsRow w.heap.size e size (.slice none 0 0) 0 xs:=⟨hown.1,Or.inl ⟨rfl,rfl⟩⟩
  obtain ⟨v2,w2,hr2,h4,_,_⟩:=run_append_own (P:=P) w w.heap.size t ty e i z size bytes ht hi hz hsize hby hzs hsz _ 0 xs hown2 a m c news hl hnews h1 h63 hbytes (Nat.le_refl _)
  rw [hr] at hr2
  injection hr2 with e1 e2
  subst e1 e2
  exact Or.inr (h4.lt b hb).1
 ·subst hsize
  by_cases hroom : n + m ≤ cap
  ·have hfit : n * i.size + news.length ≤ cur.size:=by rw [hl,hcs,← Nat.add_mul]; exact Nat.mul_le_mul_right _ hroom
   have hr2:=run_append_room (P:=P) w t ty e i ht hi g n cap cur hg a m c news hl hnews h1 hroom hfit
   rw [hr] at hr2
   injection hr2 with e1 e2
   subst e1
   exact Or.inl hb
  ·have holds : ∀ j u,xs[j]? = some u → w.cell? ((⟨g,0,none⟩ : Addr).add j) = some u:=hown.cells (g:=g) rfl
   have hsmall : n + m ≤ 9223372036854775807:=by simp only [maxLen] at h63; omega
   have hr2:=run_append_grow (P:=P) w t ty e i z ht hi hz ⟨g,0,none⟩ n cap xs hown.1 holds a m c news hl hnews (by omega) (by omega) (growslice_fits (by omega) (by rw [hby]; exact hbytes))
   rw [hr] at hr2
   injection hr2 with e1 e2
   subst e1
   simp only [Value.ownBlock,Option.some.injEq] at hb
   exact Or.inr (by omega)
theorem wpList_append_oneN {P : Program} {α : Type} (E : ElF P α) (w : World) {ops : Array Oper} {rest : List Oper} {o : Oper} {a : Act} {Q : Exit → Act → World → Prop} (hgd : o.guard = none) (s x : Operand)
  (ho : o.op = .call { callee:=.builtin .append,args:=#[s,x],argTypes:=#[E.ST,E.ST] })
  (base : Nat) (v : Value) (xs : List α) (hs : a.eval s = v) (hown : OwnV E w base v xs)
  (eb : Nat) (y : α) (hx : a.eval x = .slice (some ⟨eb,0,none⟩) 1 1) (hy : ∀ j u,(E.f y)[j]? = some u → w.cell? ⟨eb,j,none⟩ = some u) (hb : (xs.length + 1) * E.byt ≤ 140737488355328) (hbase : base ≤ w.heap.size)
  (h : ∀ v' w',OwnV E w' base v' (xs ++ [y]) → w.grownBy w' v.ownBlock → (∀ b,v'.ownBlock = some b → v.ownBlock = some b ∨ w.heap.size ≤ b) → wpList P ops Q rest (a.put o.dst v') w') : wpList P ops Q (o :: rest) a w:=by
 obtain ⟨i,hi,hz0,hz1,hz2⟩:=info_parts E.hi
 have hlen : xs.length + 1 ≤ 140737488355328:=Nat.le_trans (Nat.le_mul_of_pos_right _ E.hby) hb
 obtain ⟨v',w',hr,h2,h3,h4⟩:=run_append_new (P:=P) (w:=w) base E.ST o.type E.T i _ E.sz E.byt E.hT hi hz0 hz1 hz2 E.hz E.hsz v xs.length (xs.flatMap E.f) hown ⟨eb,0,none⟩ 1 1 (E.f y) (by rw [E.hf]; omega) (fun j u hu => by rw [Addr.add_lit,Nat.zero_add]; exact hy j u hu) (E.h1 y) (by simp [maxLen]; omega) hb hbase
 refine wpList_plain hgd fun K hK => ?_
 unfold Oper.wp execOp
 simp only [ho,resolve,invoke,builtin,Sem.run_bind,Sem.run_pure,Result.andThen_ok,List.map_toArray,List.map_cons,List.map_nil,hs,hx,hr]
 refine hK _ _ (h v' w' ?_ h3 h4)
 unfold OwnV
 rw [List.length_append,List.flatMap_append]
 simpa using h2
theorem run_append_one {P : Program} {α : Type} (E : ElF P α) (w : World) (ty : TypeId) (base : Nat) (v : Value) (xs : List α) (hown : OwnV E w base v xs)
  (eb : Nat) (y : α) (hy : ∀ j u,(E.f y)[j]? = some u → w.cell? ⟨eb,j,none⟩ = some u) (hb : (xs.length + 1) * E.byt ≤ 140737488355328) (hbase : base ≤ w.heap.size) :
  ∃ v' w',(Builtin.append_ #[E.ST,E.ST] ty #[v,.slice (some ⟨eb,0,none⟩) 1 1]).run P w = .ok v' w' ∧ OwnV E w' base v' (xs ++ [y]) ∧ w.grownBy w' v.ownBlock ∧ (∀ b,v'.ownBlock = some b → v.ownBlock = some b ∨ w.heap.size ≤ b):=by
 obtain ⟨i,hi,hz0,hz1,hz2⟩:=info_parts E.hi
 have hlen : xs.length + 1 ≤ 140737488355328:=Nat.le_trans (Nat.le_mul_of_pos_right _ E.hby) hb
 obtain ⟨v',w',hr,h2,h3,h4⟩:=run_append_new (P:=P) (w:=w) base E.ST ty E.T i _ E.sz E.byt E.hT hi hz0 hz1 hz2 E.hz E.hsz v xs.length (xs.flatMap E.f) hown ⟨eb,0,none⟩ 1 1 (E.f y) (by rw [E.hf]; omega) (fun j u hu => by rw [Addr.add_lit,Nat.zero_add]; exact hy j u hu) (E.h1 y) (by simp [maxLen]; omega) hb hbase
 refine ⟨v',w',hr,?_,h3,h4⟩
 unfold OwnV
 rw [List.length_append,List.flatMap_append]
 simpa using h2
theorem run_append_all {P : Program} {α : Type} (E : ElF P α) {R : Nat → World → List Value → α → Prop} (hRf : ∀ w cs x,R 0 w cs x → cs = E.f x) (w : World) (ty : TypeId)
  (base g cap : Nat) (xs : List α) (hown : OwnV E w base (.slice (some ⟨g,0,none⟩) xs.length cap) xs)
  (xv : Value) (ys : List α) (hsl : SlAt E.sz E.byt R 0 w xv ys) (hb : (xs.length + ys.length) * E.byt ≤ 140737488355328) (hbase : base ≤ w.heap.size) :
  ∃ g' cap' w',(Builtin.append_ #[E.ST,E.ST] ty #[.slice (some ⟨g,0,none⟩) xs.length cap,xv]).run P w = .ok (.slice (some ⟨g',0,none⟩) (xs.length + ys.length) cap') w' ∧ OwnV E w' base (.slice (some ⟨g',0,none⟩) (xs.length + ys.length) cap') (xs ++ ys) ∧ w.grownBy w' (some g):=by
 obtain ⟨i,hi,hz0,hz1,hz2⟩:=info_parts E.hi
 obtain ⟨ax,cx,rfl,_,hn,hel⟩:=hsl
 have hlen : xs.length + ys.length ≤ 140737488355328:=Nat.le_trans (Nat.le_mul_of_pos_right _ E.hby) hb
 have hcap : xs.length ≤ cap:=by
  rcases hown.shape with ⟨hh,_⟩ | ⟨g1,cap1,hv,_,_,h2⟩
  ·cases hh
  ·simp only [Value.slice.injEq] at hv
   obtain ⟨_,_,rfl⟩:=hv
   exact h2
 cases ax with
 | none =>
  have hy : ys = []:=by
   cases ys with
   | nil => rfl
   | cons y ys =>
    obtain ⟨b,o,cs,hbo,_⟩:=hel 0 (by simp)
    cases hbo
  subst hy
  have hrun:=run_append_room_src (P:=P) w E.ST E.ST ty E.T i E.hT hi g 0 xs.length cap (.slice none 0 cx) 0 [] (Src.ofNil w E.hT cx) (by omega) (fun j hj => by simp at hj) (fun j hj => by simp at hj)
  have hsc : w.setCells g (0 + xs.length * i.size) [] = w:=by simp [World.setCells]
  rw [hsc] at hrun
  exact ⟨g,cap,w,by simpa using hrun,by simpa using hown,World.grownBy.refl w _⟩
 | some ad =>
  have hcellA : ∀ j u,(ys.flatMap E.f)[j]? = some u → w.cell? (ad.add j) = some u:=fun j u hu => by
   have hj : j < ys.length * E.sz:=by
    have:=(List.getElem?_eq_some_iff.1 hu).1
    rwa [flat_len E.f E.sz E.hf] at this
   have hsz:=E.hsz
   have hdiv : j / E.sz < ys.length:=Nat.div_lt_of_lt_mul (by rw [Nat.mul_comm]; exact hj)
   have hmod : j % E.sz < E.sz:=Nat.mod_lt _ hsz
   have hjj : j / E.sz * E.sz + j % E.sz = j:=by rw [Nat.mul_comm]; exact Nat.div_add_mod j E.sz
   obtain ⟨b,oo,cs,hbo,_,_,hl,hc,hR⟩:=hel (j / E.sz) hdiv
   simp only [Option.some.injEq] at hbo
   subst hbo
   have ecs:=hRf _ _ _ hR
   subst ecs
   have hg:=flat_get E.f E.sz E.hf ys (j / E.sz) hdiv (j % E.sz) hmod
   rw [hjj,hu] at hg
   obtain ⟨hjl,hju⟩:=List.getElem?_eq_some_iff.1 hg.symm
   have hcc:=hc (j % E.sz) hjl
   rw [hju] at hcc
   rw [Addr.add_lit,← hcc]
   congr 2
   omega
  obtain ⟨v',w',hr,h1,h2,h3⟩:=run_append_own (P:=P) w base E.ST ty E.T i _ E.sz E.byt E.hT hi hz0 hz1 hz2 E.hz E.hsz _ xs.length (xs.flatMap E.f) hown ad ys.length cx (ys.flatMap E.f) (flat_len E.f E.sz E.hf ys) hcellA (fun u hu => by obtain ⟨y,_,hy⟩:=List.mem_flatMap.1 hu; exact E.h1 y u hy) (by simp [maxLen]; omega) hb hbase
  obtain ⟨hl,hh⟩:=h1
  rcases hh with ⟨rfl,_⟩ | ⟨g',cap',cur,rfl,hrr⟩
  ·have:=h3.1 rfl
   cases this.1
  ·refine ⟨g',cap',w',hr,⟨?_,Or.inr ⟨g',cap',cur,by rw [List.length_append],?_⟩⟩,h2⟩
   ·rw [List.length_append,List.flatMap_append]
    exact hl
   ·rw [List.length_append,List.flatMap_append]
    exact hrr
theorem OwnV.notBlk' {P : Program} {α : Type} {E : ElF P α} {w : World} {b1 g : Nat} {v : Value} {xs : List α} {T : TypeId} {cs : Array Value} (h1 : OwnV E w b1 v xs) (h2 : BlkAt w g T cs) (ht : E.T ≠ T) : v.ownBlock ≠ some g:=fun e => by
 rcases h1.2 with ⟨rfl,_⟩ | ⟨g',cap,cur,rfl,_,hg,_⟩
 ·cases e
 ·simp only [Value.ownBlock,Option.some.injEq] at e
  subst e
  unfold BlkAt at h2
  rw [hg] at h2
  simp only [Option.some.injEq,Obj.cells.injEq] at h2
  exact ht h2.2.1
theorem OwnV.ofBlock {P : Program} {α : Type} {E : ElF P α} {w w' : World} {base : Nat} {v : Value} {xs : List α} (h : OwnV E w base v xs) (hb : ∀ b,v.ownBlock = some b → w'.heap[b]? = w.heap[b]?) : OwnV E w' base v xs:=by
 obtain ⟨h1,h2⟩:=h
 refine ⟨h1,?_⟩
 rcases h2 with h2 | ⟨g,cap,cur,rfl,hg,hh,r⟩
 ·exact Or.inl h2
 ·exact Or.inr ⟨g,cap,cur,rfl,hg,(hb g rfl).trans hh,r⟩
theorem blk_not {w : World} {b : Nat} {T U : TypeId} {cs cs' : Array Value} (h : BlkAt w b T cs) (hne : T ≠ U) : ¬ BlkAt w b U cs':=fun h' => by
 have h9:=h.symm.trans h'
 simp only [Option.some.injEq,Obj.cells.injEq] at h9
 exact hne h9.2.1
def clRen : Go.Shelf.Ren:=⟨fun | 25 => 107 | n => n,fun | 0 => 0 | 3 => 3 | 4 => 4 | 5 => 5 | 9 => 9 | 37 => 22 | 47 => 76 | n => n,fun | n => n⟩
theorem clLays : LaysPu.n25 Tryz.prog clRen:={
 mixed:=by kernel_rfl
 f25:=Tryz.func107.trans (congrArg some (by kernel_rfl))
 t0:=Tryz.underlying0
 a0:=Tryz.isAgg0
 z0:=Tryz.sizeOf0
 v0:=Tryz.zeroValue0
 i0:=by kernel_rfl
 t3:=Tryz.underlying3
 a3:=Tryz.isAgg3
 z3:=Tryz.sizeOf3
 v3:=Tryz.zeroValue3
 i3:=by kernel_rfl
 t4:=Tryz.underlying4
 a4:=Tryz.isAgg4
 z4:=Tryz.sizeOf4
 v4:=Tryz.zeroValue4
 i4:=by kernel_rfl
 t5:=Tryz.underlying5
 a5:=Tryz.isAgg5
 z5:=Tryz.sizeOf5
 v5:=Tryz.zeroValue5
 i5:=by kernel_rfl
 t9:=Tryz.underlying9
 a9:=Tryz.isAgg9
 z9:=Tryz.sizeOf9
 v9:=Tryz.zeroValue9
 i9:=by kernel_rfl
 t37:=Tryz.underlying22
 a37:=Tryz.isAgg22
 z37:=Tryz.sizeOf22
 v37:=Tryz.zeroValue22
 i37:=by kernel_rfl
 t47:=Tryz.underlying76
 a47:=Tryz.isAgg76
 z47:=Tryz.sizeOf76
 v47:=Tryz.zeroValue76
 i47:=by kernel_rfl }
theorem slClone_ok (s : ByteArray) (w : World) (h : Len s.size) : Calls Tryz.prog 107 #[.string s] w (Ans (.string s) w):=by
 have h9:=AnyPu.stringslite_Clone clLays s w (by unfold Len at h; omega)
 exact h9
theorem clone_ok (s : ByteArray) (w : World) (h : Len s.size) : Calls Tryz.prog 95 #[.string s] w (Ans (.string s) w):=by
 have HC:=hide (slClone_ok s w h)
 clear h
 go_enter Tryz.func95,Tryz.ntmps95
 go_wp2_with fail
 refine (uh HC).mono ?_
 rintro e w1 ⟨rfl,hb⟩
 have HB:=hide hb
 clear hb
 go_wp2
 go_ret
 exact ⟨rfl,uh HB⟩
theorem ret_str {a b : ByteArray} (h : a = b) : Ending.returned (.string a) = .returned (.string b):=by rw [h]
theorem dig_at : ∀ k : Nat,k < 10 → (ByteArray.mk #[48,49,50,51,52,53,54,55,56,57]).extract k (k + 1) = ⟨#[UInt8.ofNat (48 + k)]⟩:=by decide
theorem dc_small (n : Nat) (h : n < 10) : dcT n = ⟨#[UInt8.ofNat (48 + n)]⟩:=by
 unfold dcT Lib.itoa
 rw [if_neg (by omega),Int.toNat_natCast,Lib.decDigits,dif_pos h]
theorem dc_big (n : Nat) (h : ¬ n < 10) : dcT n = dcT (n / 10 : Nat) ++ ⟨#[UInt8.ofNat (48 + n % 10)]⟩:=by
 unfold dcT Lib.itoa
 rw [if_neg (by omega),if_neg (by omega),Int.toNat_natCast,Int.toNat_natCast,Lib.decDigits,dif_neg h]
 apply ByteArray.ext
 simp [ByteArray.data_append]
theorem dc_neg (n : Int) (h : n < 0) : dcT n = ⟨#[45]⟩ ++ dcT (-n):=by
 unfold dcT Lib.itoa
 rw [if_pos h,if_neg (by omega)]
 have : n.natAbs = (-n).toNat:=by omega
 rw [this]
 apply ByteArray.ext
 simp [ByteArray.data_append]
theorem l1Dec_up (n : Nat) : n ≤ 2147483647 → ∀ (w : World),
  Calls Tryz.prog 30 #[.int .i64 (n : Int)] w (Ans (.string (dcT n)) w):=by
 induction n using Nat.strongRecOn with
 | _ n ih =>
  intro hn w
  by_cases h : n < 10
  ·have HD:=hide (dc_small n h)
   have HE:=hide (dig_at n h)
   clear ih
   generalize dcT n = dn at *
   go_enter Tryz.func30,Tryz.ntmps30
   go_wp2
   go_ret
   exact ⟨ret_str (by rw [uh HD]; exact uh HE),Below.refl _ _⟩
  ·obtain ⟨q,hq⟩ : ∃ q,q = n / 10:=⟨_,rfl⟩
   obtain ⟨r,hr⟩ : ∃ r,r = n % 10:=⟨_,rfl⟩
   have IH:=hide (ih q (by omega) (by omega))
   have hsz : (dcT (q : Nat)).size ≤ 11:=dcT_size _ (by omega)
   have HD:=dc_big n h
   rw [← hq,← hr] at HD
   have HD:=hide HD
   have HE:=hide (dig_at r (by omega))
   clear ih
   have hdv : IntKind.i64.wrap ((n : Int) / 10) = (q : Int):=by rw [IntKind.wrap_i64]; omega
   have hmd : (n : Int).tmod 10 = (r : Int):=by rw [Int.tmod_eq_emod_of_nonneg (by omega)]; omega
   have hr10 : r < 10:=by omega
   have hx0 : IntKind.i64.wrap ((r : Int) + 1) = (r : Int) + 1:=by rw [IntKind.wrap_i64]; omega
   have hx1 : (0 : Int) ≤ (r : Int):=by omega
   have hx2 : (r : Int) ≤ (r : Int) + 1:=by omega
   have hx3 : (r : Int) + 1 ≤ 10:=by omega
   have hx4 : r + 1 ≤ 10:=by omega
   clear hq hr
   generalize dcT n = dn at *
   generalize dcT (q : Nat) = dq at *
   go_enter Tryz.func30,Tryz.ntmps30
   go_wp2_with fail
   go_region_with (first | (go_at_call 30; refine (uh IH _).mono ?_; rintro e w' ⟨rfl,hb⟩))
   all_goals
    go_wp2
    go_ret
    exact ⟨ret_str (by rw [uh HD]; exact congrArg _ (uh HE)),(Below.refl _ w).drew.trans hb⟩
theorem l1Dec_ok (n : Int) (h : -2147483647 ≤ n ∧ n ≤ 2147483647) (w : World) :
  Calls Tryz.prog 30 #[.int .i64 n] w (Ans (.string (dcT n)) w):=by
 by_cases h0 : 0 ≤ n
 ·obtain ⟨k,rfl⟩:=Int.eq_ofNat_of_zero_le h0
  exact l1Dec_up k (by omega) w
 ·have hneg : n < 0:=by omega
  obtain ⟨k,hk⟩:=Int.eq_ofNat_of_zero_le (show 0 ≤ -n from by omega)
  have HC:=hide (l1Dec_up k (by omega))
  have HD:=dc_neg n hneg
  rw [hk] at HD
  have HD:=hide HD
  have hq : (dcT (k : Nat)).size ≤ 11:=dcT_size _ (by omega)
  generalize dcT n = dn at *
  generalize dcT (k : Nat) = dq at *
  go_enter Tryz.func30,Tryz.ntmps30
  go_wp2_with fail
  refine (uh HC _).mono ?_
  rintro e w' ⟨rfl,hb⟩
  go_wp2
  go_ret
  exact ⟨ret_str (uh HD).symm,hb⟩
theorem jn_small (sep : ByteArray) (xs : List ByteArray) (hs : sep.size ≤ 10) (hx : ∀ x,x ∈ xs → x.size ≤ 1000000) (hl : xs.length ≤ 1000) (k : Nat) : (jnT sep (xs.take k)).size ≤ 2000000000:=by
 have h:=jnT_size sep (xs.take k) 1000000 (fun x hx' => hx x (List.mem_of_mem_take hx'))
 have h2 : (xs.take k).length ≤ 1000:=by rw [List.length_take]; omega
 have h3 : sep.size * (xs.take k).length ≤ 10 * 1000:=Nat.mul_le_mul hs h2
 omega
theorem box_thru {w w' w1 : World} {o : Obj} (h : Below (w.heap.size + 1) (w.alloc o) w') (hb : Below w'.heap.size w' w1) : Below (w.heap.size + 1) (w.alloc o) w1:=by
 have:=h.size
 simp at this
 exact h.trans (hb.mono this)
end Go.Proofs.YtajabbnlbopcbaaGreatDoor
