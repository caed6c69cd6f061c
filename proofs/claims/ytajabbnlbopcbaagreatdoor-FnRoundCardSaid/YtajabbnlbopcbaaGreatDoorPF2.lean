import Derived.Test.YtajabbnlbopcbaaGreatDoorPF1
namespace Go.Proofs.YtajabbnlbopcbaaGreatDoor
open Go.RowKit
set_option linter.unusedSimpArgs false
set_option linter.unusedVariables false
set_option maxHeartbeats 2000000 in
theorem numberAt_ok (s t : ByteArray) (i : Nat) (w : World) (hs : Len s.size) (ht : i + t.size ≤ s.size) (he : s.extract i (i + t.size) = t) (hb : ∀ k,k < t.size → byt s (i + k) = byt t k) (hd : ∀ k,k < t.size → digB (byt t k) = true) (hm : numTo t t.size ≤ 2147483647) (hst : digB (byt s (i + t.size)) = false) :
  Calls Tryz.prog 70 #[.string s,.int .i64 i] w (TkAns 2 t (numTo t t.size) i w):=by
 unfold Len at hs
 have HN : Hid (∀ k,k ≤ t.size → 0 ≤ numTo t k ∧ numTo t k ≤ 2147483647):=hide (fun k hk => by
  have h1:=numTo_pos t hd k hk
  have h2:=numTo_le t hd (t.size - k) k (by omega)
  omega)
 have HB:=hide hb
 have HD:=hide hd
 have HS:=hide hst
 have HE:=hide he
 clear hb hd hst he hm
 obtain ⟨PO,hPO⟩ : ∃ PO : Ending → World → Prop,PO = TkAns 2 t (numTo t t.size) i w:=⟨_,rfl⟩
 rw [← hPO]
 have HPO:=hide hPO
 clear hPO
 obtain ⟨W,hW⟩ : ∃ W,W = w.alloc (.cells #[.int .i64 0,.string ⟨#[]⟩,.int .i64 0,.int .i64 0] 105):=⟨_,rfl⟩
 have HP0 : Hid (Below w.heap.size w W):=hW ▸ (Below.refl _ _).alloc (Nat.le_refl _) _
 have HZ : Hid (BlkAt W w.heap.size 105 #[.int .i64 0,.string ⟨#[]⟩,.int .i64 0,.int .i64 0]):=hW ▸ blk_box _ _ _
 have HWW:=hide hW
 clear hW
 have z0:=(uh HZ).cell (i:=0) (v:=.int .i64 0) rfl
 have z1:=(uh HZ).cell (i:=1) (v:=.string ⟨#[]⟩) rfl
 have z2:=(uh HZ).cell (i:=2) (v:=.int .i64 0) rfl
 have z3:=(uh HZ).cell (i:=3) (v:=.int .i64 0) rfl
 have g0:=(uh HZ).free 0
 have g1:=(uh HZ).free 1
 have g2:=(uh HZ).free 2
 have g3:=(uh HZ).free 3
 have lz:=(uh HZ).lt
 go_enter Tryz.func70,Tryz.ntmps70
 go_wp2
 rw [← uh HWW]
 go_loopg [5,6] t.size (fun g v x wr => ∃ (k : Nat),k ≤ t.size ∧ g = t.size - k ∧ x = .int .i64 ((i + k : Nat) : Int) ∧ v = .int .i64 (numTo t k) ∧ wr = W)
 case atStart => exact ⟨0,by omega,rfl,rfl,rfl,rfl⟩
 case round =>
  obtain ⟨k,hk,hg,rfl,rfl,hwr⟩:=hrel
  rw [hwr]
  clear hwr
  have HG:=hide hg
  clear hg
  by_cases hlt : k < t.size
  ·have hlt2 : i + k < s.size:=by omega
   have hbd:=u8_bd s[i + k]
   have ebt : byt t k = (s[i + k].toNat : Int):=by rw [← byt_lt hlt2]; exact (uh HB k hlt).symm
   have hwd : digB (s[i + k].toNat : Int) = true:=by rw [← ebt]; exact uh HD k hlt
   have h48 : 48 ≤ (s[i + k].toNat : Int) ∧ (s[i + k].toNat : Int) ≤ 57:=by simpa [digB] using hwd
   have hn0:=uh HN k (by omega)
   have hn1:=uh HN (k + 1) (by omega)
   have HNX : Hid (numTo t (k + 1) = numTo t k * 10 + ((s[i + k].toNat : Int) - 48)):=by
    show numTo t (k + 1) = _
    rw [numTo,ebt]
   have hn2 : numTo t k * 10 + ((s[i + k].toNat : Int) - 48) ≤ 2147483647:=by rw [← uh HNX]; exact hn1.2
   have d9 : decide (2147483647 < numTo t k * 10 + ((s[i + k].toNat : Int) - 48)) = false:=by simp; omega
   clear ebt hn1
   generalize numTo t k = n at *
   go_wp2_with (go_at_call 69; refine (isDigit_ok _ _ (by omega) (by omega)).mono ?_; rintro e w' ⟨rfl,rfl⟩; rw [hwd])
   go_roundg (t.size - (k + 1))
   case measure => have:=uh HG; omega
   case rel => exact ⟨k + 1,by omega,rfl,by go_num,by rw [uh HNX],rfl⟩
  ·have e : k = t.size:=by omega
   subst e
   clear HG hlt hk
   have hn0:=uh HN t.size (Nat.le_refl _)
   have hB:=blk_set4 (x0:=.int .i64 2) (x1:=.string t) (x2:=.int .i64 (numTo t t.size)) (x3:=.int .i64 i) (uh HZ) (uh HP0) (Nat.le_refl _)
   have HF : Hid (PO (.returned (tokV 2 t (numTo t t.size) i)) ((((W.setCell ⟨w.heap.size,0,none⟩ (.int .i64 2)).setCell ⟨w.heap.size,1,none⟩ (.string t)).setCell ⟨w.heap.size,2,none⟩ (.int .i64 (numTo t t.size))).setCell ⟨w.heap.size,3,none⟩ (.int .i64 i))):=by
    show PO _ _
    rw [uh HPO]
    exact ⟨rfl,hB.2⟩
   have c0:=hB.1.cell (i:=0) (v:=.int .i64 2) rfl
   have c1:=hB.1.cell (i:=1) (v:=.string t) rfl
   have c2:=hB.1.cell (i:=2) (v:=.int .i64 (numTo t t.size)) rfl
   have c3:=hB.1.cell (i:=3) (v:=.int .i64 i) rfl
   have HEX:=uh HE
   clear hB
   generalize numTo t t.size = nv at *
   by_cases hlt2 : i + t.size < s.size
   ·have hbd:=u8_bd s[i + t.size]
    have hwd : digB (s[i + t.size].toNat : Int) = false:=by rw [← byt_lt hlt2]; exact uh HS
    generalize t.size = L at *
    go_wp2_with (go_at_call 69; refine (isDigit_ok _ _ (by omega) (by omega)).mono ?_; rintro e w' ⟨rfl,rfl⟩; rw [hwd])
    exact bodyPost_ret (v:=tokV 2 t nv i) (by simp [results,Tryz.results70,go_sem,c0,c1,c2,c3,tokV]) rfl (uh HF)
   ·generalize t.size = L at *
    go_wp2
    exact bodyPost_ret (v:=tokV 2 t nv i) (by simp [results,Tryz.results70,go_sem,c0,c1,c2,c3,tokV]) rfl (uh HF)
set_option maxHeartbeats 2000000 in
theorem symbolAt_ok (s t : ByteArray) (i : Nat) (w : World) (hs : Len s.size) (hn : t.size = 1 ∨ t.size = 2) (ht : i + t.size ≤ s.size) (he : s.extract i (i + t.size) = t) (hy : symB t = true) (h2 : t.size = 1 → i + 2 ≤ s.size → symB (s.extract i (i + 2)) = false) :
  Calls Tryz.prog 71 #[.string s,.int .i64 i] w (TkAns 3 t 0 i w):=by
 unfold Len at hs
 have H2:=hide h2
 have HE:=hide he
 clear h2 he
 obtain ⟨PO,hPO⟩ : ∃ PO : Ending → World → Prop,PO = TkAns 3 t 0 i w:=⟨_,rfl⟩
 rw [← hPO]
 have HPO:=hide hPO
 clear hPO
 obtain ⟨W,hW⟩ : ∃ W,W = w.alloc (.cells #[.int .i64 0,.string ⟨#[]⟩,.int .i64 0,.int .i64 0] 105):=⟨_,rfl⟩
 have HP0 : Hid (Below w.heap.size w W):=hW ▸ (Below.refl _ _).alloc (Nat.le_refl _) _
 have HZ : Hid (BlkAt W w.heap.size 105 #[.int .i64 0,.string ⟨#[]⟩,.int .i64 0,.int .i64 0]):=hW ▸ blk_box _ _ _
 have HWW:=hide hW
 clear hW
 have z0:=(uh HZ).cell (i:=0) (v:=.int .i64 0) rfl
 have z1:=(uh HZ).cell (i:=1) (v:=.string ⟨#[]⟩) rfl
 have z2:=(uh HZ).cell (i:=2) (v:=.int .i64 0) rfl
 have z3:=(uh HZ).cell (i:=3) (v:=.int .i64 0) rfl
 have g0:=(uh HZ).free 0
 have g1:=(uh HZ).free 1
 have g2:=(uh HZ).free 2
 have g3:=(uh HZ).free 3
 have lz:=(uh HZ).lt
 obtain ⟨m,hm,hm1,hm2⟩ : ∃ m : Nat,min 2 ((s.size : Int) - (i : Int)) = m ∧ m ≤ 2 ∧ t.size ≤ m ∧ i + m ≤ s.size:=by
  by_cases c : i + 2 ≤ s.size
  ·exact ⟨2,by omega,by omega,by omega,c⟩
  ·exact ⟨1,by omega,by omega,by omega,by omega⟩
 go_enter Tryz.func71,Tryz.ntmps71
 go_wp2
 rw [← uh HWW]
 go_loopg [5,6] m (fun g x tx wr => ∃ (k : Nat),k ≤ m ∧ t.size ≤ k ∧ g = k ∧ x = .int .i64 k ∧ wr = W)
 case atStart => exact ⟨m,by omega,by omega,rfl,rfl,rfl⟩
 case round =>
  obtain ⟨k,hk,hk1,hg,rfl,hwr⟩:=hrel
  rw [hwr]
  clear hwr
  have HG:=hide hg
  clear hg hm
  by_cases hlt : k = t.size
  ·subst hlt
   have hB:=blk_set4 (x0:=.int .i64 3) (x1:=.string t) (x2:=.int .i64 0) (x3:=.int .i64 i) (uh HZ) (uh HP0) (Nat.le_refl _)
   have HF : Hid (PO (.returned (tokV 3 t 0 i)) ((((W.setCell ⟨w.heap.size,0,none⟩ (.int .i64 3)).setCell ⟨w.heap.size,1,none⟩ (.string t)).setCell ⟨w.heap.size,2,none⟩ (.int .i64 0)).setCell ⟨w.heap.size,3,none⟩ (.int .i64 i))):=by
    show PO _ _
    rw [uh HPO]
    exact ⟨rfl,hB.2⟩
   have c0:=hB.1.cell (i:=0) (v:=.int .i64 3) rfl
   have c1:=hB.1.cell (i:=1) (v:=.string t) rfl
   have c2:=hB.1.cell (i:=2) (v:=.int .i64 0) rfl
   have c3:=hB.1.cell (i:=3) (v:=.int .i64 i) rfl
   have HEX:=uh HE
   have HY:=isSymbol_ok t W
   rw [hy] at HY
   have HYY:=hide HY
   clear hB HY
   have h1 : 1 ≤ t.size:=by omega
   clear hn
   generalize t.size = L at *
   go_wp2_with (go_at_call 93; refine (uh HYY).mono ?_; rintro e w' ⟨rfl,rfl⟩)
   exact bodyPost_ret (v:=tokV 3 t 0 i) (by simp [results,Tryz.results71,go_sem,c0,c1,c2,c3,tokV]) rfl (uh HF)
  ·have e1 : t.size = 1:=by omega
   have e2 : k = 2:=by omega
   have hy2:=uh H2 e1 (by omega)
   subst e2
   have HY:=isSymbol_ok (s.extract i (i + 2)) W
   rw [hy2] at HY
   have HYY:=hide HY
   have HT1:=hide e1
   clear HY hy2 e1 hn hlt hk1
   go_wp2_with (go_at_call 93; refine (uh HYY).mono ?_; rintro e w' ⟨rfl,rfl⟩)
   go_roundg 1
   case measure => have:=uh HG; omega
   case rel => exact ⟨1,by omega,by have:=uh HT1; omega,rfl,by go_num,rfl⟩
end Go.Proofs.YtajabbnlbopcbaaGreatDoor
