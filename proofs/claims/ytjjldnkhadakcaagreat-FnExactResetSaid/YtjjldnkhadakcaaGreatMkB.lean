import Derived.Test.YtjjldnkhadakcaaGreatMk
namespace Go.Proofs.YtjjldnkhadakcaaGreat
open Go.RowKit
set_option linter.unusedSimpArgs false
set_option linter.unusedVariables false

set_option maxHeartbeats 1000000 in
theorem markStmS_ok (xs : List DStm) (v : Value) (K : Int) (k r lo hi : Nat) (w : World) (hK : K = (k : Int)) (hr : k + wTo mStm xs xs.length = r) (hrb : r ≤ 1000000000) (hv : MAt 6 KStm lo hi w v xs) (hhi : hi ≤ w.heap.size) :
    Calls Tryz.prog 59 #[v, .int .i64 K] w (MkPost lo hi w r) := by
  subst hK
  obtain ⟨a, cap, rfl, hn, hx⟩ := hv
  unfold Len at hn
  have HX := hide hx
  have HWL := hide (fun q hq => wTo_le mStm xs q hq)
  have HHI := hide hhi
  have HR := hide hr
  have HRB := hide hrb
  clear hx hhi hr hrb
  go_enter Tryz.func59, Tryz.ntmps59
  go_wp2
  go_loopg [1, 5] xs.length (fun g kk i wr => ∃ (q kq : Nat), q ≤ xs.length ∧ g = xs.length - q ∧ i = .int .i64 q ∧ kk = .int .i64 (kq : Int) ∧ Hid (k + wTo mStm xs q = kq) ∧ Hid (Mk lo hi w wr))
  case atStart => exact ⟨0, k, Nat.zero_le _, by omega, rfl, rfl, by rw [wTo_zero]; rfl, Mk.refl _ _ _⟩
  case round =>
    obtain ⟨q, kq, hq, hg, rfl, rfl, HKQ, HMK⟩ := hrel
    have HG := hide hg
    clear hg
    by_cases hlt : q < xs.length
    · obtain ⟨b, o, rfl, hel⟩ := unhide HX q hlt
      have hel := hel.stays KStm_kept (unhide HMK)
      have hst : k + wTo mStm xs (q + 1) = kq + mStm xs[q] := by
        rw [wTo_succ _ _ _ hlt, ← unhide HKQ]
        omega
      have hkb : kq + mStm xs[q] ≤ 1000000000 := by
        have h1 := unhide HWL (q + 1) (by omega)
        have h2 := unhide HR
        have h3 := unhide HRB
        omega
      generalize xs[q] = x at hel hst hkb
      have em : mStm x = 3 + wTo mStr x.outs x.outs.length + wTo mItem x.code x.code.length + wTo mItems x.args x.args.length := rfl
      rw [em] at hst hkb
      have HST := hide hst
      have HEL := hide hel
      have hh0 : hi ≤ wr.heap.size := Nat.le_trans (unhide HHI) (unhide HMK).size
      have R0 := hide (Mk.refl lo hi wr)
      clear hst hel em
      obtain ⟨hlo, hbh, cs, hcs, hc, ⟨s0, s1, s2, v3, v4, v5, rfl, g3, g4, g5⟩⟩ := (unhide HEL).stays KStm_kept (unhide R0)
      have c0 := (hc 0 (by simp)).1
      have f0 := (hc 0 (by simp)).2
      simp only [Nat.mul_one, Nat.add_zero, List.getElem_cons_zero, List.getElem_cons_succ] at c0 f0
      obtain ⟨sa3, sc3, rfl⟩ := g3.shape
      have G3 := hide g3
      clear g3
      obtain ⟨sa4, sc4, rfl⟩ := g4.shape
      have G4 := hide g4
      clear g4
      obtain ⟨sa5, sc5, rfl⟩ := g5.shape
      have G5 := hide g5
      clear g5
      clear hc hcs
      go_wp2_with fail
      refine (markText_at _ (kq + 1) _ (by omega) (by omega)).mono ?_
      rintro e w1 ⟨rfl, hb⟩
      have seg : Mk lo hi wr w1 := Mk.then ((Mk.refl lo hi wr).setCell hlo hbh c0 (Kind2.ints _ _)) hb hh0
      have R1 := hide ((unhide R0).trans seg)
      have hh1 : hi ≤ w1.heap.size := Nat.le_trans hh0 seg.size
      clear hb seg
      clear c0 f0
      clear G3 G4 G5
      clear hlo hbh
      obtain ⟨hlo, hbh, cs, hcs, hc, ⟨s0, s1, s2, v3, v4, v5, rfl, g3, g4, g5⟩⟩ := (unhide HEL).stays KStm_kept (unhide R1)
      have c1 := (hc 1 (by simp)).1
      have f1 := (hc 1 (by simp)).2
      have c2 := (hc 2 (by simp)).1
      have f2 := (hc 2 (by simp)).2
      have c3 := (hc 3 (by simp)).1
      have f3 := (hc 3 (by simp)).2
      simp only [Nat.mul_one, Nat.add_zero, List.getElem_cons_zero, List.getElem_cons_succ] at c1 f1 c2 f2 c3 f3
      obtain ⟨sa3, sc3, rfl⟩ := g3.shape
      have G3 := hide g3
      clear g3
      obtain ⟨sa4, sc4, rfl⟩ := g4.shape
      have G4 := hide g4
      clear g4
      obtain ⟨sa5, sc5, rfl⟩ := g5.shape
      have G5 := hide g5
      clear g5
      clear hc hcs
      obtain ⟨r2, hr2⟩ : ∃ r, kq + 3 + wTo mStr x.outs (x.outs).length = r := ⟨_, rfl⟩
      have hrb2 : r2 ≤ 1000000000 := by omega
      have HR2 := hide hr2
      clear hr2
      go_wp2_with fail
      refine (markStringS_ok _ _ _ (kq + 3) r2 lo hi _ (by omega) (unhide HR2) hrb2 ((unhide G3).stays KStr_kept (((Mk.refl lo hi w1).setCell hlo hbh c1 (Kind2.strs _ _)).setCell hlo hbh (by rw [cell_set_other _ _ _ _ _ (Or.inr (by simp))]; exact c2) (Kind2.ints _ _))) (Nat.le_trans hh1 (Mk.size (((Mk.refl lo hi w1).setCell hlo hbh c1 (Kind2.strs _ _)).setCell hlo hbh (by rw [cell_set_other _ _ _ _ _ (Or.inr (by simp))]; exact c2) (Kind2.ints _ _))))).mono ?_
      rintro e w2 ⟨rfl, hm⟩
      have seg : Mk lo hi w1 w2 := Mk.trans (((Mk.refl lo hi w1).setCell hlo hbh c1 (Kind2.strs _ _)).setCell hlo hbh (by rw [cell_set_other _ _ _ _ _ (Or.inr (by simp))]; exact c2) (Kind2.ints _ _)) hm
      have R2 := hide ((unhide R1).trans seg)
      have hh2 : hi ≤ w2.heap.size := Nat.le_trans hh1 seg.size
      clear hm seg
      clear c1 f1 c2 f2 c3 f3
      clear G3 G4 G5
      clear hlo hbh
      obtain ⟨hlo, hbh, cs, hcs, hc, ⟨s0, s1, s2, v3, v4, v5, rfl, g3, g4, g5⟩⟩ := (unhide HEL).stays KStm_kept (unhide R2)
      have c4 := (hc 4 (by simp)).1
      have f4 := (hc 4 (by simp)).2
      simp only [Nat.mul_one, Nat.add_zero, List.getElem_cons_zero, List.getElem_cons_succ] at c4 f4
      obtain ⟨sa3, sc3, rfl⟩ := g3.shape
      have G3 := hide g3
      clear g3
      obtain ⟨sa4, sc4, rfl⟩ := g4.shape
      have G4 := hide g4
      clear g4
      obtain ⟨sa5, sc5, rfl⟩ := g5.shape
      have G5 := hide g5
      clear g5
      clear hc hcs
      obtain ⟨r3, hr3⟩ : ∃ r, r2 + 0 + wTo mItem x.code (x.code).length = r := ⟨_, rfl⟩
      have hrb3 : r3 ≤ 1000000000 := by have := unhide HR2; omega
      have HR3 := hide hr3
      clear hr3
      go_wp2_with fail
      refine (markItemS_ok _ _ _ (r2 + 0) r3 lo hi _ (by omega) (unhide HR3) hrb3 ((unhide G4).stays KItem_kept (Mk.refl lo hi w2)) (Nat.le_trans hh2 (Mk.size (Mk.refl lo hi w2)))).mono ?_
      rintro e w3 ⟨rfl, hm⟩
      have seg : Mk lo hi w2 w3 := Mk.trans (Mk.refl lo hi w2) hm
      have R3 := hide ((unhide R2).trans seg)
      have hh3 : hi ≤ w3.heap.size := Nat.le_trans hh2 seg.size
      clear hm seg
      clear c4 f4
      clear G3 G4 G5
      clear hlo hbh
      obtain ⟨hlo, hbh, cs, hcs, hc, ⟨s0, s1, s2, v3, v4, v5, rfl, g3, g4, g5⟩⟩ := (unhide HEL).stays KStm_kept (unhide R3)
      have c5 := (hc 5 (by simp)).1
      have f5 := (hc 5 (by simp)).2
      simp only [Nat.mul_one, Nat.add_zero, List.getElem_cons_zero, List.getElem_cons_succ] at c5 f5
      obtain ⟨sa3, sc3, rfl⟩ := g3.shape
      have G3 := hide g3
      clear g3
      obtain ⟨sa4, sc4, rfl⟩ := g4.shape
      have G4 := hide g4
      clear g4
      obtain ⟨sa5, sc5, rfl⟩ := g5.shape
      have G5 := hide g5
      clear g5
      clear hc hcs
      obtain ⟨r4, hr4⟩ : ∃ r, r3 + 0 + wTo mItems x.args (x.args).length = r := ⟨_, rfl⟩
      have hrb4 : r4 ≤ 1000000000 := by have := unhide HR2; have := unhide HR3; omega
      have HR4 := hide hr4
      clear hr4
      go_wp2_with fail
      refine (markItemSS_ok _ _ _ (r3 + 0) r4 lo hi _ (by omega) (unhide HR4) hrb4 ((unhide G5).stays KItems_kept (Mk.refl lo hi w3)) (Nat.le_trans hh3 (Mk.size (Mk.refl lo hi w3)))).mono ?_
      rintro e w4 ⟨rfl, hm⟩
      have seg : Mk lo hi w3 w4 := Mk.trans (Mk.refl lo hi w3) hm
      have R4 := hide ((unhide R3).trans seg)
      have hh4 : hi ≤ w4.heap.size := Nat.le_trans hh3 seg.size
      clear hm seg
      clear c5 f5
      clear G3 G4 G5
      clear hlo hbh
      go_wp2
      go_roundg (xs.length - (q + 1))
      case measure => have := unhide HG; omega
      case rel => exact ⟨q + 1, r4 + 0, by omega, rfl, by go_num, by go_num, (by refine hide ?_; have := unhide HST; have := unhide HR2; have := unhide HR3; have := unhide HR4; omega), (by refine hide ?_; exact (unhide HMK).trans ((unhide R4).trans (Mk.refl lo hi w4)))⟩
    · have e : q = xs.length := by omega
      have HE : Hid (kq = r) := by
        refine hide ?_
        rw [← unhide HKQ, ← unhide HR, e]
      clear e
      go_wp2
      go_ret
      exact ⟨(by rw [unhide HE]; rfl), unhide HMK⟩

set_option maxHeartbeats 1000000 in
theorem markClassS_ok (xs : List DClass) (v : Value) (K : Int) (k r lo hi : Nat) (w : World) (hK : K = (k : Int)) (hr : k + wTo mClass xs xs.length = r) (hrb : r ≤ 1000000000) (hv : MAt 7 KClass lo hi w v xs) (hhi : hi ≤ w.heap.size) :
    Calls Tryz.prog 37 #[v, .int .i64 K] w (MkPost lo hi w r) := by
  subst hK
  obtain ⟨a, cap, rfl, hn, hx⟩ := hv
  unfold Len at hn
  have HX := hide hx
  have HWL := hide (fun q hq => wTo_le mClass xs q hq)
  have HHI := hide hhi
  have HR := hide hr
  have HRB := hide hrb
  clear hx hhi hr hrb
  go_enter Tryz.func37, Tryz.ntmps37
  go_wp2
  go_loopg [1, 5] xs.length (fun g kk i wr => ∃ (q kq : Nat), q ≤ xs.length ∧ g = xs.length - q ∧ i = .int .i64 q ∧ kk = .int .i64 (kq : Int) ∧ Hid (k + wTo mClass xs q = kq) ∧ Hid (Mk lo hi w wr))
  case atStart => exact ⟨0, k, Nat.zero_le _, by omega, rfl, rfl, by rw [wTo_zero]; rfl, Mk.refl _ _ _⟩
  case round =>
    obtain ⟨q, kq, hq, hg, rfl, rfl, HKQ, HMK⟩ := hrel
    have HG := hide hg
    clear hg
    by_cases hlt : q < xs.length
    · obtain ⟨b, o, rfl, hel⟩ := unhide HX q hlt
      have hel := hel.stays KClass_kept (unhide HMK)
      have hst : k + wTo mClass xs (q + 1) = kq + mClass xs[q] := by
        rw [wTo_succ _ _ _ hlt, ← unhide HKQ]
        omega
      have hkb : kq + mClass xs[q] ≤ 1000000000 := by
        have h1 := unhide HWL (q + 1) (by omega)
        have h2 := unhide HR
        have h3 := unhide HRB
        omega
      generalize xs[q] = x at hel hst hkb
      have em : mClass x = 1 + wTo mSlot x.ins x.ins.length + wTo mSlot x.outs x.outs.length + wTo mStr x.locs x.locs.length + wTo mInt x.mems x.mems.length + wTo mInt x.insts x.insts.length + wTo mStm x.body x.body.length := rfl
      rw [em] at hst hkb
      have HST := hide hst
      have HEL := hide hel
      have hh0 : hi ≤ wr.heap.size := Nat.le_trans (unhide HHI) (unhide HMK).size
      have R0 := hide (Mk.refl lo hi wr)
      clear hst hel em
      obtain ⟨hlo, hbh, cs, hcs, hc, ⟨s0, v1, v2, v3, v4, v5, v6, rfl, g1, g2, g3, g4, g5, g6⟩⟩ := (unhide HEL).stays KClass_kept (unhide R0)
      obtain ⟨sa1, sc1, rfl⟩ := g1.shape
      have G1 := hide g1
      clear g1
      obtain ⟨sa2, sc2, rfl⟩ := g2.shape
      have G2 := hide g2
      clear g2
      obtain ⟨sa3, sc3, rfl⟩ := g3.shape
      have G3 := hide g3
      clear g3
      obtain ⟨sa4, sc4, rfl⟩ := g4.shape
      have G4 := hide g4
      clear g4
      obtain ⟨sa5, sc5, rfl⟩ := g5.shape
      have G5 := hide g5
      clear g5
      obtain ⟨sa6, sc6, rfl⟩ := g6.shape
      have G6 := hide g6
      clear g6
      clear hc hcs
      go_wp2_with fail
      refine (markText_at _ (kq + 0) _ (by omega) (by omega)).mono ?_
      rintro e w1 ⟨rfl, hb⟩
      have seg : Mk lo hi wr w1 := Mk.then (Mk.refl lo hi wr) hb hh0
      have R1 := hide ((unhide R0).trans seg)
      have hh1 : hi ≤ w1.heap.size := Nat.le_trans hh0 seg.size
      clear hb seg
      clear G1 G2 G3 G4 G5 G6
      clear hlo hbh
      obtain ⟨hlo, hbh, cs, hcs, hc, ⟨s0, v1, v2, v3, v4, v5, v6, rfl, g1, g2, g3, g4, g5, g6⟩⟩ := (unhide HEL).stays KClass_kept (unhide R1)
      have c0 := (hc 0 (by simp)).1
      have f0 := (hc 0 (by simp)).2
      have c1 := (hc 1 (by simp)).1
      have f1 := (hc 1 (by simp)).2
      simp only [Nat.mul_one, Nat.add_zero, List.getElem_cons_zero, List.getElem_cons_succ] at c0 f0 c1 f1
      obtain ⟨sa1, sc1, rfl⟩ := g1.shape
      have G1 := hide g1
      clear g1
      obtain ⟨sa2, sc2, rfl⟩ := g2.shape
      have G2 := hide g2
      clear g2
      obtain ⟨sa3, sc3, rfl⟩ := g3.shape
      have G3 := hide g3
      clear g3
      obtain ⟨sa4, sc4, rfl⟩ := g4.shape
      have G4 := hide g4
      clear g4
      obtain ⟨sa5, sc5, rfl⟩ := g5.shape
      have G5 := hide g5
      clear g5
      obtain ⟨sa6, sc6, rfl⟩ := g6.shape
      have G6 := hide g6
      clear g6
      clear hc hcs
      obtain ⟨r2, hr2⟩ : ∃ r, kq + 1 + wTo mSlot x.ins (x.ins).length = r := ⟨_, rfl⟩
      have hrb2 : r2 ≤ 1000000000 := by omega
      have HR2 := hide hr2
      clear hr2
      go_wp2_with fail
      refine (markSlotS_ok _ _ _ (kq + 1) r2 lo hi _ (by omega) (unhide HR2) hrb2 ((unhide G1).stays KSlot_kept ((Mk.refl lo hi w1).setCell hlo hbh c0 (Kind2.strs _ _))) (Nat.le_trans hh1 (Mk.size ((Mk.refl lo hi w1).setCell hlo hbh c0 (Kind2.strs _ _))))).mono ?_
      rintro e w2 ⟨rfl, hm⟩
      have seg : Mk lo hi w1 w2 := Mk.trans ((Mk.refl lo hi w1).setCell hlo hbh c0 (Kind2.strs _ _)) hm
      have R2 := hide ((unhide R1).trans seg)
      have hh2 : hi ≤ w2.heap.size := Nat.le_trans hh1 seg.size
      clear hm seg
      clear c0 f0 c1 f1
      clear G1 G2 G3 G4 G5 G6
      clear hlo hbh
      obtain ⟨hlo, hbh, cs, hcs, hc, ⟨s0, v1, v2, v3, v4, v5, v6, rfl, g1, g2, g3, g4, g5, g6⟩⟩ := (unhide HEL).stays KClass_kept (unhide R2)
      have c2 := (hc 2 (by simp)).1
      have f2 := (hc 2 (by simp)).2
      simp only [Nat.mul_one, Nat.add_zero, List.getElem_cons_zero, List.getElem_cons_succ] at c2 f2
      obtain ⟨sa1, sc1, rfl⟩ := g1.shape
      have G1 := hide g1
      clear g1
      obtain ⟨sa2, sc2, rfl⟩ := g2.shape
      have G2 := hide g2
      clear g2
      obtain ⟨sa3, sc3, rfl⟩ := g3.shape
      have G3 := hide g3
      clear g3
      obtain ⟨sa4, sc4, rfl⟩ := g4.shape
      have G4 := hide g4
      clear g4
      obtain ⟨sa5, sc5, rfl⟩ := g5.shape
      have G5 := hide g5
      clear g5
      obtain ⟨sa6, sc6, rfl⟩ := g6.shape
      have G6 := hide g6
      clear g6
      clear hc hcs
      obtain ⟨r3, hr3⟩ : ∃ r, r2 + 0 + wTo mSlot x.outs (x.outs).length = r := ⟨_, rfl⟩
      have hrb3 : r3 ≤ 1000000000 := by have := unhide HR2; omega
      have HR3 := hide hr3
      clear hr3
      go_wp2_with fail
      refine (markSlotS_ok _ _ _ (r2 + 0) r3 lo hi _ (by omega) (unhide HR3) hrb3 ((unhide G2).stays KSlot_kept (Mk.refl lo hi w2)) (Nat.le_trans hh2 (Mk.size (Mk.refl lo hi w2)))).mono ?_
      rintro e w3 ⟨rfl, hm⟩
      have seg : Mk lo hi w2 w3 := Mk.trans (Mk.refl lo hi w2) hm
      have R3 := hide ((unhide R2).trans seg)
      have hh3 : hi ≤ w3.heap.size := Nat.le_trans hh2 seg.size
      clear hm seg
      clear c2 f2
      clear G1 G2 G3 G4 G5 G6
      clear hlo hbh
      obtain ⟨hlo, hbh, cs, hcs, hc, ⟨s0, v1, v2, v3, v4, v5, v6, rfl, g1, g2, g3, g4, g5, g6⟩⟩ := (unhide HEL).stays KClass_kept (unhide R3)
      have c3 := (hc 3 (by simp)).1
      have f3 := (hc 3 (by simp)).2
      simp only [Nat.mul_one, Nat.add_zero, List.getElem_cons_zero, List.getElem_cons_succ] at c3 f3
      obtain ⟨sa1, sc1, rfl⟩ := g1.shape
      have G1 := hide g1
      clear g1
      obtain ⟨sa2, sc2, rfl⟩ := g2.shape
      have G2 := hide g2
      clear g2
      obtain ⟨sa3, sc3, rfl⟩ := g3.shape
      have G3 := hide g3
      clear g3
      obtain ⟨sa4, sc4, rfl⟩ := g4.shape
      have G4 := hide g4
      clear g4
      obtain ⟨sa5, sc5, rfl⟩ := g5.shape
      have G5 := hide g5
      clear g5
      obtain ⟨sa6, sc6, rfl⟩ := g6.shape
      have G6 := hide g6
      clear g6
      clear hc hcs
      obtain ⟨r4, hr4⟩ : ∃ r, r3 + 0 + wTo mStr x.locs (x.locs).length = r := ⟨_, rfl⟩
      have hrb4 : r4 ≤ 1000000000 := by have := unhide HR2; have := unhide HR3; omega
      have HR4 := hide hr4
      clear hr4
      go_wp2_with fail
      refine (markStringS_ok _ _ _ (r3 + 0) r4 lo hi _ (by omega) (unhide HR4) hrb4 ((unhide G3).stays KStr_kept (Mk.refl lo hi w3)) (Nat.le_trans hh3 (Mk.size (Mk.refl lo hi w3)))).mono ?_
      rintro e w4 ⟨rfl, hm⟩
      have seg : Mk lo hi w3 w4 := Mk.trans (Mk.refl lo hi w3) hm
      have R4 := hide ((unhide R3).trans seg)
      have hh4 : hi ≤ w4.heap.size := Nat.le_trans hh3 seg.size
      clear hm seg
      clear c3 f3
      clear G1 G2 G3 G4 G5 G6
      clear hlo hbh
      obtain ⟨hlo, hbh, cs, hcs, hc, ⟨s0, v1, v2, v3, v4, v5, v6, rfl, g1, g2, g3, g4, g5, g6⟩⟩ := (unhide HEL).stays KClass_kept (unhide R4)
      have c4 := (hc 4 (by simp)).1
      have f4 := (hc 4 (by simp)).2
      simp only [Nat.mul_one, Nat.add_zero, List.getElem_cons_zero, List.getElem_cons_succ] at c4 f4
      obtain ⟨sa1, sc1, rfl⟩ := g1.shape
      have G1 := hide g1
      clear g1
      obtain ⟨sa2, sc2, rfl⟩ := g2.shape
      have G2 := hide g2
      clear g2
      obtain ⟨sa3, sc3, rfl⟩ := g3.shape
      have G3 := hide g3
      clear g3
      obtain ⟨sa4, sc4, rfl⟩ := g4.shape
      have G4 := hide g4
      clear g4
      obtain ⟨sa5, sc5, rfl⟩ := g5.shape
      have G5 := hide g5
      clear g5
      obtain ⟨sa6, sc6, rfl⟩ := g6.shape
      have G6 := hide g6
      clear g6
      clear hc hcs
      obtain ⟨r5, hr5⟩ : ∃ r, r4 + 0 + wTo mInt x.mems (x.mems).length = r := ⟨_, rfl⟩
      have hrb5 : r5 ≤ 1000000000 := by have := unhide HR2; have := unhide HR3; have := unhide HR4; omega
      have HR5 := hide hr5
      clear hr5
      go_wp2_with fail
      refine (markIntS_ok _ _ _ (r4 + 0) r5 lo hi _ (by omega) (unhide HR5) hrb5 ((unhide G4).stays KInt_kept (Mk.refl lo hi w4)) (Nat.le_trans hh4 (Mk.size (Mk.refl lo hi w4)))).mono ?_
      rintro e w5 ⟨rfl, hm⟩
      have seg : Mk lo hi w4 w5 := Mk.trans (Mk.refl lo hi w4) hm
      have R5 := hide ((unhide R4).trans seg)
      have hh5 : hi ≤ w5.heap.size := Nat.le_trans hh4 seg.size
      clear hm seg
      clear c4 f4
      clear G1 G2 G3 G4 G5 G6
      clear hlo hbh
      obtain ⟨hlo, hbh, cs, hcs, hc, ⟨s0, v1, v2, v3, v4, v5, v6, rfl, g1, g2, g3, g4, g5, g6⟩⟩ := (unhide HEL).stays KClass_kept (unhide R5)
      have c5 := (hc 5 (by simp)).1
      have f5 := (hc 5 (by simp)).2
      simp only [Nat.mul_one, Nat.add_zero, List.getElem_cons_zero, List.getElem_cons_succ] at c5 f5
      obtain ⟨sa1, sc1, rfl⟩ := g1.shape
      have G1 := hide g1
      clear g1
      obtain ⟨sa2, sc2, rfl⟩ := g2.shape
      have G2 := hide g2
      clear g2
      obtain ⟨sa3, sc3, rfl⟩ := g3.shape
      have G3 := hide g3
      clear g3
      obtain ⟨sa4, sc4, rfl⟩ := g4.shape
      have G4 := hide g4
      clear g4
      obtain ⟨sa5, sc5, rfl⟩ := g5.shape
      have G5 := hide g5
      clear g5
      obtain ⟨sa6, sc6, rfl⟩ := g6.shape
      have G6 := hide g6
      clear g6
      clear hc hcs
      obtain ⟨r6, hr6⟩ : ∃ r, r5 + 0 + wTo mInt x.insts (x.insts).length = r := ⟨_, rfl⟩
      have hrb6 : r6 ≤ 1000000000 := by have := unhide HR2; have := unhide HR3; have := unhide HR4; have := unhide HR5; omega
      have HR6 := hide hr6
      clear hr6
      go_wp2_with fail
      refine (markIntS_ok _ _ _ (r5 + 0) r6 lo hi _ (by omega) (unhide HR6) hrb6 ((unhide G5).stays KInt_kept (Mk.refl lo hi w5)) (Nat.le_trans hh5 (Mk.size (Mk.refl lo hi w5)))).mono ?_
      rintro e w6 ⟨rfl, hm⟩
      have seg : Mk lo hi w5 w6 := Mk.trans (Mk.refl lo hi w5) hm
      have R6 := hide ((unhide R5).trans seg)
      have hh6 : hi ≤ w6.heap.size := Nat.le_trans hh5 seg.size
      clear hm seg
      clear c5 f5
      clear G1 G2 G3 G4 G5 G6
      clear hlo hbh
      obtain ⟨hlo, hbh, cs, hcs, hc, ⟨s0, v1, v2, v3, v4, v5, v6, rfl, g1, g2, g3, g4, g5, g6⟩⟩ := (unhide HEL).stays KClass_kept (unhide R6)
      have c6 := (hc 6 (by simp)).1
      have f6 := (hc 6 (by simp)).2
      simp only [Nat.mul_one, Nat.add_zero, List.getElem_cons_zero, List.getElem_cons_succ] at c6 f6
      obtain ⟨sa1, sc1, rfl⟩ := g1.shape
      have G1 := hide g1
      clear g1
      obtain ⟨sa2, sc2, rfl⟩ := g2.shape
      have G2 := hide g2
      clear g2
      obtain ⟨sa3, sc3, rfl⟩ := g3.shape
      have G3 := hide g3
      clear g3
      obtain ⟨sa4, sc4, rfl⟩ := g4.shape
      have G4 := hide g4
      clear g4
      obtain ⟨sa5, sc5, rfl⟩ := g5.shape
      have G5 := hide g5
      clear g5
      obtain ⟨sa6, sc6, rfl⟩ := g6.shape
      have G6 := hide g6
      clear g6
      clear hc hcs
      obtain ⟨r7, hr7⟩ : ∃ r, r6 + 0 + wTo mStm x.body (x.body).length = r := ⟨_, rfl⟩
      have hrb7 : r7 ≤ 1000000000 := by have := unhide HR2; have := unhide HR3; have := unhide HR4; have := unhide HR5; have := unhide HR6; omega
      have HR7 := hide hr7
      clear hr7
      go_wp2_with fail
      refine (markStmS_ok _ _ _ (r6 + 0) r7 lo hi _ (by omega) (unhide HR7) hrb7 ((unhide G6).stays KStm_kept (Mk.refl lo hi w6)) (Nat.le_trans hh6 (Mk.size (Mk.refl lo hi w6)))).mono ?_
      rintro e w7 ⟨rfl, hm⟩
      have seg : Mk lo hi w6 w7 := Mk.trans (Mk.refl lo hi w6) hm
      have R7 := hide ((unhide R6).trans seg)
      have hh7 : hi ≤ w7.heap.size := Nat.le_trans hh6 seg.size
      clear hm seg
      clear c6 f6
      clear G1 G2 G3 G4 G5 G6
      clear hlo hbh
      go_wp2
      go_roundg (xs.length - (q + 1))
      case measure => have := unhide HG; omega
      case rel => exact ⟨q + 1, r7 + 0, by omega, rfl, by go_num, by go_num, (by refine hide ?_; have := unhide HST; have := unhide HR2; have := unhide HR3; have := unhide HR4; have := unhide HR5; have := unhide HR6; have := unhide HR7; omega), (by refine hide ?_; exact (unhide HMK).trans ((unhide R7).trans (Mk.refl lo hi w7)))⟩
    · have e : q = xs.length := by omega
      have HE : Hid (kq = r) := by
        refine hide ?_
        rw [← unhide HKQ, ← unhide HR, e]
      clear e
      go_wp2
      go_ret
      exact ⟨(by rw [unhide HE]; rfl), unhide HMK⟩

set_option maxHeartbeats 1000000 in
theorem markMachine_ok (ks : List DClass) (v : Value) (lo hi : Nat) (w : World) (hv : MAt 7 KClass lo hi w v ks) (hhi : hi ≤ w.heap.size) (hb : wTo mClass ks ks.length ≤ 100000000) :
    Calls Tryz.prog 20 #[.agg #[v], .int .i64 1] w (fun e w' => ∃ r : Nat, e = .returned (.int .i64 (r : Int)) ∧ Mk lo hi w w') := by
  obtain ⟨a, cap, rfl⟩ := hv.shape
  have hA : Below w.heap.size w (w.alloc (.cells #[.slice a ks.length cap] 29)) := (Below.refl _ _).alloc (Nat.le_refl _) _
  have hM : Mk lo hi w (w.alloc (.cells #[.slice a ks.length cap] 29)) := Mk.of_below hA hhi
  have HC := hide (markClassS_ok ks _ 1 1 _ lo hi _ rfl rfl (by omega) (hv.stays KClass_kept hM) (Nat.le_trans hhi hM.size))
  have HM := hide hM
  clear hv hhi hb hA hM
  generalize 1 + wTo mClass ks ks.length = r at *
  go_enter Tryz.func20, Tryz.ntmps20
  go_wp2_with fail
  refine (unhide HC).mono ?_
  rintro e w1 ⟨rfl, hm⟩
  have H1 := hide ((unhide HM).trans hm)
  clear hm
  go_wp2
  go_ret
  exact ⟨r, rfl, unhide H1⟩

end Go.Proofs.YtjjldnkhadakcaaGreat
namespace Go.Proofs.YtjjldnkhadakcaaGreat
open Go.RowKit
set_option linter.unusedSimpArgs false
set_option linter.unusedVariables false

/-- A row of n numbers of one's own that may be written. -/
def RowI (w : World) (v : Value) (n : Nat) : Prop := ∃ a cap, v = .slice a n cap ∧ n ≤ 1000000 ∧ (0 < n → ∃ g, a = some ⟨g, 0, none⟩ ∧ RowAt w g n)
/-- .. which holds 1, 2, .. from k on. -/
def Marked (w : World) (v : Value) (n k : Nat) : Prop := ∃ a cap, v = .slice a n cap ∧ n ≤ 1000000 ∧ ∀ i, i < n → ∃ g, a = some ⟨g, 0, none⟩ ∧ w.cell? ⟨g, i, none⟩ = some (.int .i64 ((k + i : Nat) : Int))
/-- Only the block of v may have turned. -/
def OneTurned (v : Value) (w w' : World) : Prop := w'.os = w.os ∧ w'.tape = w.tape ∧ w'.output = w.output ∧ w.heap.size ≤ w'.heap.size ∧ ∀ k, k < w.heap.size → v.ownBlock ≠ some k → w'.heap[k]? = w.heap[k]?

set_option maxHeartbeats 1000000 in
theorem markInts_exact (v : Value) (n k r : Nat) (w : World) (hv : RowI w v n) (hk : k ≤ 1000000000) (hr : k + n = r) :
    Calls Tryz.prog 21 #[v, .int .i64 (k : Int)] w (fun e w' => e = .returned (.int .i64 (r : Int)) ∧ Marked w' v n k ∧ OneTurned v w w') := by
  obtain ⟨a, cap, rfl, hn, hrow⟩ := hv
  have HR := hide hr
  clear hr
  by_cases h0 : n = 0
  · subst h0
    have HE : Hid (r = k) := by have := unhide HR; refine hide ?_; omega
    clear hrow HR
    go_enter Tryz.func21, Tryz.ntmps21
    go_wp2
    go_loopg [1, 5] 0 (fun g kk i wr => i = .int .i64 0 ∧ kk = .int .i64 (k : Int) ∧ wr = w)
    case atStart => exact ⟨rfl, rfl, rfl⟩
    case round =>
      obtain ⟨rfl, rfl, hw⟩ := hrel
      subst hw
      go_wp2
      go_ret
      exact ⟨(by rw [unhide HE]; rfl), ⟨_, _, rfl, by omega, fun i hi => absurd hi (Nat.not_lt_zero _)⟩, rfl, rfl, rfl, Nat.le_refl _, fun _ _ _ => rfl⟩
  obtain ⟨g, rfl, hrw⟩ := hrow (by omega)
  have HROW := hide hrw
  clear hrw hrow h0
  go_enter Tryz.func21, Tryz.ntmps21
  go_wp2
  go_loopg [1, 5] n (fun gh kk i wr => ∃ (q kq : Nat), q ≤ n ∧ gh = n - q ∧ i = .int .i64 q ∧ kk = .int .i64 (kq : Int) ∧ Hid (k + q = kq) ∧ kq ≤ 1001000000 ∧ Hid (RowAt wr g n) ∧ Hid (∀ i, i < q → wr.cell? ⟨g, i, none⟩ = some (.int .i64 ((k + i : Nat) : Int))) ∧ Hid (OneTurned (.slice (some ⟨g, 0, none⟩) n cap) w wr))
  case atStart => exact ⟨0, k, Nat.zero_le _, by omega, rfl, rfl, rfl, by omega, HROW, fun i hi => absurd hi (Nat.not_lt_zero _), rfl, rfl, rfl, Nat.le_refl _, fun _ _ _ => rfl⟩
  case round =>
    obtain ⟨q, kq, hq, hg, rfl, rfl, HKQ, hkb, HRW, HCL, HOT⟩ := hrel
    have HG := hide hg
    clear hg
    by_cases hlt : q < n
    · obtain ⟨u, c0⟩ := (unhide HRW).cell hlt
      have f0 := (unhide HRW).frozen q
      have H1 := hide ((unhide HRW).set q (.int .i64 (kq : Int)))
      have H2 : Hid (∀ i, i < q + 1 → (wr.setCell ⟨g, q, none⟩ (.int .i64 (kq : Int))).cell? ⟨g, i, none⟩ = some (.int .i64 ((k + i : Nat) : Int))) := fun i hi => by
        by_cases e : i = q
        · subst e
          rw [cell_set_self (unhide HRW) hlt, unhide HKQ]
        · rw [cell_set_other _ _ _ _ _ (Or.inr e)]
          exact unhide HCL i (by omega)
      have H3 : Hid (OneTurned (.slice (some ⟨g, 0, none⟩) n cap) w (wr.setCell ⟨g, q, none⟩ (.int .i64 (kq : Int)))) := by
        obtain ⟨t1, t2, t3, t4, t5⟩ := unhide HOT
        refine hide ⟨t1, t2, t3, by simpa [World.setCell] using t4, fun i hi hne => ?_⟩
        rw [Below.heap_setCell _ _ _ _ (fun e => hne (by rw [e]; rfl))]
        exact t5 i hi hne
      have hkb2 : kq < 1001000000 := by have := unhide HKQ; omega
      go_wp2
      go_roundg (n - (q + 1))
      case measure => have := unhide HG; omega
      case rel => exact ⟨q + 1, kq + 1, by omega, rfl, by go_num, by go_num, (by refine hide ?_; have := unhide HKQ; omega), by omega, H1, H2, H3⟩
    · have e : q = n := by omega
      have HE : Hid (r = kq) := by have := unhide HR; have := unhide HKQ; refine hide ?_; omega
      have HD : Hid (Marked wr (.slice (some ⟨g, 0, none⟩) n cap) n k) := ⟨_, _, rfl, hn, fun i hi => ⟨g, rfl, unhide HCL i (by omega)⟩⟩
      clear e
      go_wp2
      go_ret
      exact ⟨(by rw [unhide HE]; rfl), unhide HD, unhide HOT⟩

set_option maxHeartbeats 1000000 in
theorem heldInts_exact (v : Value) (n k r : Nat) (w : World) (hv : Marked w v n k) (hk : k ≤ 1000000000) (hr : k + n = r) :
    Calls Tryz.prog 22 #[v, .int .i64 (k : Int)] w (Ans (.int .i64 (r : Int)) w) := by
  obtain ⟨a, cap, rfl, hn, hrow⟩ := hv
  have HR := hide hr
  have HROW := hide hrow
  clear hr hrow
  go_enter Tryz.func22, Tryz.ntmps22
  go_wp2
  go_loopg [1, 5] n (fun gh kk i wr => ∃ (q kq : Nat), q ≤ n ∧ gh = n - q ∧ i = .int .i64 q ∧ kk = .int .i64 (kq : Int) ∧ Hid (k + q = kq) ∧ kq ≤ 1001000000 ∧ wr = w)
  case atStart => exact ⟨0, k, Nat.zero_le _, by omega, rfl, rfl, rfl, by omega, rfl⟩
  case round =>
    obtain ⟨q, kq, hq, hg, rfl, rfl, HKQ, hkb, hw⟩ := hrel
    subst hw
    have HG := hide hg
    clear hg
    by_cases hlt : q < n
    · obtain ⟨g, rfl, c0⟩ := unhide HROW q hlt
      rw [unhide HKQ] at c0
      have hkb2 : kq < 1001000000 := by have := unhide HKQ; omega
      go_wp2
      go_roundg (n - (q + 1))
      case measure => have := unhide HG; omega
      case rel => exact ⟨q + 1, kq + 1, by omega, rfl, by go_num, by go_num, (by refine hide ?_; have := unhide HKQ; omega), by omega, rfl⟩
    · have HE : Hid (r = kq) := by have := unhide HR; have := unhide HKQ; refine hide ?_; omega
      go_wp2
      go_ret
      exact ⟨(by rw [unhide HE]; rfl), Below.refl _ _⟩

theorem markInts_one (v : Value) (n r : Nat) (w : World) (hv : RowI w v n) (hr : 1 + n = r) :
    Calls Tryz.prog 21 #[v, .int .i64 1] w (fun e w' => e = .returned (.int .i64 (r : Int)) ∧ Marked w' v n 1 ∧ OneTurned v w w') := markInts_exact v n 1 r w hv (by omega) hr
theorem heldInts_one (v : Value) (n r : Nat) (w : World) (hv : Marked w v n 1) (hr : 1 + n = r) :
    Calls Tryz.prog 22 #[v, .int .i64 1] w (Ans (.int .i64 (r : Int)) w) := heldInts_exact v n 1 r w hv (by omega) hr

end Go.Proofs.YtjjldnkhadakcaaGreat
