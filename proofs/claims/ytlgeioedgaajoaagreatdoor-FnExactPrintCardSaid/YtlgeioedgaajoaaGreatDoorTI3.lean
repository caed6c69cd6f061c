import Derived.Test.YtlgeioedgaajoaaGreatDoorTI2
import Derived.Test.YtlgeioedgaajoaaGreatDoorBlk
namespace Go.Proofs.YtlgeioedgaajoaaGreatDoor
open Go.RowKit
set_option linter.unusedSimpArgs false
set_option linter.unusedVariables false

/-! ### Where parts begin -/
theorem ch_pre {code : List DItem} (h : wk code 0 = true) : ∀ k, k ≤ code.length → ∃ ss : List ByteArray, Ch code 0 k ss ∧ wk (code.drop k) ss.length = true ∧ (0 < k → 0 < ss.length) := by
  intro k
  induction k with
  | zero => intro _; exact ⟨[], .nil 0, by simpa using h, fun h => absurd h (Nat.lt_irrefl _)⟩
  | succ k ih =>
    intro hk
    obtain ⟨ss, hc, hw, _⟩ := ih (by omega)
    have hlt : k < code.length := by omega
    rw [List.drop_eq_getElem_cons hlt] at hw
    simp only [wk] at hw
    have hbd := ocI_bd code[k].op
    by_cases hneg : (ss.length : Int) < ocI code[k].op
    · rw [if_pos hneg] at hw; cases hw
    rw [if_neg hneg] at hw
    have har : ((arN code[k].op : Nat) : Int) = ocI code[k].op := by unfold arN; omega
    obtain ⟨m, s1, s2, rfl, hl2, c1, c2⟩ := hc.split (arN code[k].op) (by omega)
    refine ⟨s1 ++ [weave (tsT code[k]) s2], .snoc hlt c1 c2 hl2, ?_, fun _ => by simp⟩
    rw [List.length_append] at hw
    have : (((s1 ++ [weave (tsT code[k]) s2]).length : Nat) : Int) = ((s1.length + s2.length : Nat) : Int) + (1 - ocI code[k].op) := by simp; omega
    rw [this]
    exact hw

theorem opd_at {code : List DItem} (h : wk code 0 = true) (k : Nat) (hk : k < code.length) : ∃ b s, Ch code b (k + 1) [s] := by
  obtain ⟨ss, hc, _, h0⟩ := ch_pre h (k + 1) hk
  obtain ⟨m, s1, s2, _, hl2, _, c2⟩ := hc.split 1 (h0 (by omega))
  match s2, hl2 with
  | [s], _ => exact ⟨m, s, c2⟩

def Begs (w : World) (g : Nat) (xs : List DItem) : Prop := ∃ cs, BlkAt w g 3 cs ∧ ∀ i, i < xs.length → ∃ b s, Ch xs b (i + 1) [s] ∧ cs[i]? = some (.int .i64 (b : Nat))

theorem uInts : Tryz.prog.underlying 88 = some (.slice 3) := by kernel_rfl
theorem iInt : (Tryz.prog.info? 3).map (fun i => (i.zero, i.size, i.bytes)) = some (some (.int .i64 0), 1, 8) := by kernel_rfl

set_option maxHeartbeats 2000000 in
theorem beginnings_ok (xs : List DItem) (v : Value) (w : World) (hv : SlAt 3 32 RItem 0 w v xs) (hwk : wk xs 0 = true) (hl : xs.length ≤ 3000) :
    Calls Tryz.prog 79 #[v] w fun e w' => ∃ g, e = .returned (.slice (some ⟨g, 0, none⟩) xs.length xs.length) ∧ w.heap.size ≤ g ∧ Begs w' g xs ∧ Below w.heap.size w w' := by
  obtain ⟨a, cap, rfl, _, hn, hx⟩ := hv
  unfold Len at hn
  have HX := hide hx
  have HW := hide hwk
  clear hx hwk
  go_enter Tryz.func79, Tryz.ntmps79
  go_wp2_with (at_make; go_must (refine wpList_make_row w rfl _ _ 88 rfl 3 _ _ uInts iInt (by decide) _ xs.length rfl rfl rfl (by omega) ?_))
  intro wA cs0 hrow0 hsz0 hbA
  have HR0 := hide hrow0
  have HS0 := hide hsz0
  have HBA := hide hbA
  have hsA := hbA.size
  clear hrow0 hsz0 hbA
  go_wp2
  go_loopg [12] xs.length (fun gh i wr => ∃ (k : Nat), k ≤ xs.length ∧ gh = xs.length - k ∧ i = .int .i64 k ∧ Below w.heap.size w wr ∧
    ∃ cs, BlkAt wr w.heap.size 3 cs ∧ cs.size = xs.length ∧ ∀ i, i < k → ∃ b s, Ch xs b (i + 1) [s] ∧ cs[i]? = some (.int .i64 (b : Nat)))
  case atStart => exact ⟨0, Nat.zero_le _, by omega, rfl, unhide HBA, cs0, unhide HR0, unhide HS0, fun i hi => absurd hi (Nat.not_lt_zero _)⟩
  case round =>
    obtain ⟨k, hk, hg, rfl, hbl, cs1, hrow, hsz, hcs1⟩ := hrel
    rename World => wN
    have HG := hide hg
    have HROW := hide hrow
    have HSZ := hide hsz
    have HC1 := hide hcs1
    have hgl := hrow.lt
    clear hg hrow hsz hcs1
    by_cases hlt : k < xs.length
    · obtain ⟨b, o, cs, rfl, _, hb, hcs, hc, hR⟩ := unhide HX k hlt
      have hc : ∀ j (hj : j < cs.length), wN.cell? ⟨b, o + k * 3 + j, none⟩ = some cs[j] := fun j hj => by rw [hbl.cell (p := ⟨b, _, none⟩) hb]; exact hc j hj
      obtain ⟨rfl, hsn, ho, hvl⟩ := hR
      have c0 := hc 0 (by simp)
      have c1 := hc 1 (by simp)
      have c2 := hc 2 (by simp)
      simp only [Nat.mul_one, Nat.add_zero, List.getElem_cons_zero, List.getElem_cons_succ] at c0 c1 c2
      obtain ⟨b0, s0, hch0⟩ := opd_at (unhide HW) k hlt
      obtain ⟨_, us, hus, hul, _⟩ := hch0.last
      have HCH0 := hide hch0
      have HUS := hide hus
      have hbd := ocI_bd xs[k].op
      have har : ((arN xs[k].op : Nat) : Int) = ocI xs[k].op := by unfold arN; omega
      have HOC := hide (fun w => operandCount_ok xs[k].op w)
      rw [← har] at HOC
      have hn3 : arN xs[k].op ≤ 3 := by omega
      clear hc hcs ho hvl hsn har hbd hch0 hus
      generalize arN xs[k].op = n at *
      generalize xs[k].op = op at *
      generalize xs[k].val = val at *
      generalize xs[k].name = nm at *
      go_wp2_with fail
      refine (unhide HOC _).mono ?_
      rintro e w1 ⟨rfl, h9⟩
      have HB1 : Hid (Below wN.heap.size wN w1) := by
        subst h9
        exact (Below.refl _ _).alloc (Nat.le_refl _) _
      have hs1 := (unhide HB1).size
      have HR1 := hide ((unhide HROW).below (unhide HB1) hgl)
      clear h9 HOC
      go_wp2
      go_loopg [6, 21] n (fun gh bg i wr => ∃ (j m : Nat) (u1 u2 : List ByteArray), j ≤ n ∧ gh = n - j ∧ i = .int .i64 j ∧ bg = .int .i64 m ∧ us = u1 ++ u2 ∧ u2.length = j ∧ Ch xs b0 m u1 ∧ m ≤ k ∧ wr = w1)
      case atStart => exact ⟨0, k, us, [], Nat.zero_le _, by omega, rfl, rfl, by simp, rfl, unhide HUS, Nat.le_refl _, rfl⟩
      case round =>
        obtain ⟨j, m, u1, u2, hj, hgj, rfl, rfl, hsp, hu2, hch, hmk, rfl⟩ := hrel
        have HGJ := hide hgj
        have hul1 : u1.length + u2.length = n := by rw [← List.length_append, ← hsp]; exact hul
        have HSP := hide hsp
        have HCH := hide hch
        clear hgj hsp hch
        by_cases hjn : j < n
        · obtain ⟨m1, v1, v2, e1, hv2, d1, d2⟩ := (unhide HCH).split 1 (by omega)
          obtain ⟨_, q, _, _, _, hq, _, _, _, _, _⟩ := d2.snoc_inv (n := 0) hv2
          subst hq
          have HD1 := hide d1
          have hm1 := d2.le
          obtain ⟨b2, s2, hb2, hcell⟩ := unhide HC1 q (by omega)
          have hmm : b2 = m1 := (Ch.one _ _ _ _ _ hb2 d2 (by rw [hv2]; rfl)).1
          subst hmm
          have cq := (unhide HR1).cell hcell
          have HE1 : Hid (us = v1 ++ (v2 ++ u2)) := by
            show us = v1 ++ (v2 ++ u2)
            rw [unhide HSP, e1, List.append_assoc]
          clear e1 d1 d2 hb2 hcell
          go_wp2
          go_roundg (n - (j + 1))
          case measure => have := unhide HGJ; omega
          case rel => exact ⟨j + 1, b2, v1, v2 ++ u2, by omega, rfl, by go_num, rfl, unhide HE1, by rw [List.length_append]; omega, unhide HD1, by omega, rfl⟩
        · have e0 : u1 = [] := List.eq_nil_of_length_eq_zero (by omega)
          subst e0
          have hm : b0 = m := (Ch.one _ _ _ _ _ (unhide HCH) (.nil m) rfl).1
          subst hm
          have hks : k < cs1.size := by rw [unhide HSZ]; exact hlt
          have ck := (unhide HR1).cell (i := k) (v := cs1[k]) (by simp [hks])
          have fk := (unhide HR1).free k
          have HRZ : Hid (∀ i, i < k + 1 → ∃ b s, Ch xs b (i + 1) [s] ∧ (cs1.setIfInBounds k (.int .i64 (b0 : Nat)))[i]? = some (.int .i64 (b : Nat))) := by
            show ∀ i, i < k + 1 → ∃ b s, Ch xs b (i + 1) [s] ∧ (cs1.setIfInBounds k (.int .i64 (b0 : Nat)))[i]? = some (.int .i64 (b : Nat))
            intro i hi
            by_cases hik : i = k
            · subst hik
              exact ⟨b0, s0, unhide HCH0, by simp [hks]⟩
            · obtain ⟨b3, s3, h3, h4⟩ := unhide HC1 i (by omega)
              exact ⟨b3, s3, h3, by rw [Array.getElem?_setIfInBounds_ne (by omega)]; exact h4⟩
          generalize cs1[k] = old at *
          go_wp2
          go_roundg (xs.length - (k + 1))
          case measure => have := unhide HG; omega
          case rel => exact ⟨k + 1, by omega, rfl, by go_num, ((unhide HB1).mono hbl.size |> hbl.trans).setCell (Nat.le_refl _) _, _, (unhide HR1).set k _, by simp [unhide HSZ], unhide HRZ⟩
    · have e : k = xs.length := by omega
      subst e
      go_wp2
      go_ret
      exact ⟨_, rfl, Nat.le_refl _, ⟨cs1, unhide HROW, unhide HC1⟩, hbl⟩

end Go.Proofs.YtlgeioedgaajoaaGreatDoor
