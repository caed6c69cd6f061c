import Derived.Test.YtlgeioedgaajoaaGreatDoorTI4
import Derived.Deep.RegionHeld3
namespace Go.Proofs.YtlgeioedgaajoaaGreatDoor
open Go.RowKit
set_option linter.unusedSimpArgs false
set_option linter.unusedVariables false

theorem typeTextT_ok (t : Int) (w : World) : Calls Tryz.prog 75 #[.int .i64 t] w fun e w' => e = .returned (.string (if t = 2 then ⟨#[98, 111, 111, 108]⟩ else ⟨#[105, 110, 116]⟩)) ∧ w' = w := by
  by_cases h : t = 2
  · subst h
    go_enter Tryz.func75, Tryz.ntmps75
    go_wp2
    go_ret
    exact ⟨rfl, rfl⟩
  · rw [if_neg h]
    have b2 : (t == 2) = false := by rw [beq_eq_false_iff_ne]; exact h
    go_enter Tryz.func75, Tryz.ntmps75
    go_wp2
    go_ret
    exact ⟨rfl, rfl⟩

set_option maxHeartbeats 1000000 in
theorem declText_ok (x : DVar) (cl : Value) (w : World) (hn : x.name.size ≤ 40) (hcl : SlAt 2 24 RCond 0 w cl x.clock) (hvb : varB x = true) :
    Calls Tryz.prog 51 #[.agg #[.string x.name, .int .i64 x.type, cl]] w (Ans (.string (dlT x)) w) := by
  have HZ := hide (dlTo_size x hvb)
  have HCN : Hid (∀ c, c ∈ x.clock → c.name.size ≤ 40) := fun c hc => name_size _ (List.all_eq_true.1 ((var_iff x).1 hvb).2.2.2 c hc)
  have h8 := ((var_iff x).1 hvb).2.2.1
  have HVB := hide hvb
  clear hvb
  obtain ⟨a, cap, rfl, _, hln, hx⟩ := hcl
  unfold Len at hln
  have HX := hide hx
  clear hx
  have HD0 := hide (dlTo_zero x)
  have HDL : Hid (dlT x = dlTo x x.clock.length) := rfl
  have HDS := hide (dlTo_succ x)
  generalize dlT x = dl at *
  generalize dlTo x = dt at *
  obtain ⟨nm, ty, clk⟩ := x
  simp only at *
  have HTY := typeTextT_ok ty
  have HD1 : Hid (dt 0 = nm ++ ⟨#[58, 32]⟩ ++ (if ty = 2 then ⟨#[98, 111, 111, 108]⟩ else ⟨#[105, 110, 116]⟩)) := by
    refine hide ?_
    rw [unhide HD0, ba_assoc]
    congr 1
    by_cases h : ty = 2
    · rw [if_pos h, if_pos h]
      decide
    · rw [if_neg h, if_neg h]
      decide
  obtain ⟨tt, htt⟩ : ∃ tt : ByteArray, tt = (if ty = 2 then ⟨#[98, 111, 111, 108]⟩ else ⟨#[105, 110, 116]⟩) := ⟨_, rfl⟩
  have htz : tt.size ≤ 4 := by rw [htt]; split <;> decide
  rw [← htt] at HTY HD1
  have HTY := hide HTY
  clear htt HD0
  have P0 := hide (((Below.refl w.heap.size w).alloc (Nat.le_refl _) (.cells #[.string nm, .int .i64 ty, .slice a clk.length cap] 64)).drew)
  have k0 : (w.alloc (.cells #[.string nm, .int .i64 ty, .slice a clk.length cap] 64)).drew.cell? ⟨w.heap.size, 0, none⟩ = some (.string nm) := by
    show (w.alloc (.cells #[.string nm, .int .i64 ty, .slice a clk.length cap] 64)).cell? _ = _
    rw [World.cell?_alloc_at _ _ _ _ rfl]
    rfl
  have k1 : (w.alloc (.cells #[.string nm, .int .i64 ty, .slice a clk.length cap] 64)).drew.cell? ⟨w.heap.size, 1, none⟩ = some (.int .i64 ty) := by
    show (w.alloc (.cells #[.string nm, .int .i64 ty, .slice a clk.length cap] 64)).cell? _ = _
    rw [World.cell?_alloc_at _ _ _ _ rfl]
    rfl
  have k2 : (w.alloc (.cells #[.string nm, .int .i64 ty, .slice a clk.length cap] 64)).drew.cell? ⟨w.heap.size, 2, none⟩ = some (.slice a clk.length cap) := by
    show (w.alloc (.cells #[.string nm, .int .i64 ty, .slice a clk.length cap] 64)).cell? _ = _
    rw [World.cell?_alloc_at _ _ _ _ rfl]
    rfl
  have q1 : ¬ (9223372036854775807 < nm.size + 2) := by omega
  have q2 : ¬ (9223372036854775807 < nm.size + 2 + tt.size) := by omega
  go_enter Tryz.func51, Tryz.ntmps51
  go_wp2_with fail
  go_region_held3 (fun w' => w'.cell? ⟨w.heap.size, 0, none⟩ = some (.string nm) ∧ w'.cell? ⟨w.heap.size, 1, none⟩ = some (.int .i64 ty) ∧ w'.cell? ⟨w.heap.size, 2, none⟩ = some (.slice a clk.length cap)) (go_keep) (first | (go_at_call 75; refine (unhide HTY _).mono ?_; rintro e wj ⟨rfl, rfl⟩))
  all_goals
    go_wp2
    go_loopg [3, 16] clk.length (fun g out i wr => ∃ (k : Nat), k ≤ clk.length ∧ g = clk.length - k ∧ i = .int .i64 k ∧ out = .string (dt k) ∧ Below w.heap.size w wr)
    case atStart => exact ⟨0, Nat.zero_le _, by omega, rfl, by rw [unhide HD1], unhide P0⟩
    case round =>
      obtain ⟨k, hk, hg, rfl, rfl, hbl⟩ := hrel
      rename World => wN
      have HG := hide hg
      clear hg
      have hz := unhide HZ k hk
      by_cases hlt : k < clk.length
      · obtain ⟨b, o, cs, rfl, _, hb, hcs, hc0, hR⟩ := unhide HX k hlt
        have hc : ∀ j (hj : j < cs.length), wN.cell? ⟨b, o + k * 2 + j, none⟩ = some cs[j] := fun j hj => by rw [hbl.cell (p := ⟨b, _, none⟩) hb]; exact hc0 j hj
        obtain ⟨rfl, hsn⟩ := hR
        have c0 := hc 0 (by simp)
        have c1 := hc 1 (by simp)
        simp only [Nat.mul_one, Nat.add_zero, List.getElem_cons_zero, List.getElem_cons_succ] at c0 c1
        have hz2 := unhide HCN clk[k] (List.getElem_mem hlt)
        have HT := hide (unhide HDS k hlt)
        have hz3 := cnT_size clk[k].on clk[k].name hz2
        have HC := hide (condText_ok clk[k].name clk[k].on (wN.alloc (.cells #[.string clk[k].name, .bool clk[k].on] 66)) hz2)
        have P1 : Hid (Below w.heap.size w (wN.alloc (.cells #[.string clk[k].name, .bool clk[k].on] 66))) := hbl.alloc hbl.size _
        clear hc hc0 hcs hsn
        generalize dt k = dk at *
        generalize clk[k] = c at *
        obtain ⟨cn, co⟩ := c
        simp only at *
        generalize cnT co cn = ct at *
        go_wp2_with fail
        refine (unhide HC).mono ?_
        rintro e w1 ⟨rfl, hb1⟩
        have HB1 : Hid (Below w.heap.size w w1) := (unhide P1).trans (hb1.mono (unhide P1).size)
        clear hb1
        go_wp2
        go_roundg (clk.length - (k + 1))
        case measure => have := unhide HG; omega
        case rel => exact ⟨k + 1, by omega, rfl, by go_num, by rw [unhide HT], unhide HB1⟩
      · have e : k = clk.length := by omega
        subst e
        generalize dt clk.length = dk at *
        go_wp2
        go_ret
        exact ⟨ret_str (unhide HDL).symm, hbl⟩

theorem uStrs : Tryz.prog.underlying 40 = some (.slice 9) := by kernel_rfl
theorem iStr : (Tryz.prog.info? 9).map (fun i => (i.zero, i.size, i.bytes)) = some (some (.string ⟨#[]⟩), 1, 16) := by kernel_rfl

/-- strings.Join of the strings in a row. -/
theorem strJoin_ok (xs : List ByteArray) (sep : ByteArray) (a : Option Addr) (c : Nat) (w : World) (ha : ∀ i, (h : i < xs.length) → ∃ bk o, a = some ⟨bk, o, none⟩ ∧ bk < w.heap.size ∧ w.cell? ⟨bk, o + i, none⟩ = some (.string xs[i])) (hc : xs.length ≤ c)
    (hs : sep.size ≤ 10) (hxs : ∀ x, x ∈ xs → x.size ≤ 1000000) (hl : xs.length ≤ 1000) :
    Calls Tryz.prog 52 #[.slice a xs.length c, .string sep] w (Ans (.string (jnT sep xs)) w) := by
  have hz := jn_small sep xs hs hxs hl xs.length
  rw [List.take_length] at hz
  match xs, ha, hc, hz, hl with
  | [], _, _, _, _ =>
    refine (Tryz.strings_Join_none a c sep w).mono ?_
    rintro e w' ⟨rfl, rfl⟩
    exact ⟨rfl, Below.refl _ _⟩
  | x :: xs, ha, hc, hz, hl =>
    obtain ⟨bk, o, rfl, hb, _⟩ := ha 0 (by simp)
    refine (Tryz.strings_Join bk o c (x :: xs) sep w (fun j y hy => ?_) hb (by omega) hc ?_).mono ?_
    · obtain ⟨hj, rfl⟩ := List.getElem?_eq_some_iff.1 hy
      obtain ⟨bk', o', he, _, hcell⟩ := ha j hj
      cases he
      exact hcell
    · have : (jnT sep (x :: xs)).size = (Lib.join ((x :: xs).map (·.data.toList)) sep.data.toList).length := by simp [jnT, ByteArray.size]
      omega
    · rintro e w' ⟨rfl, h⟩
      exact ⟨rfl, h⟩

set_option maxHeartbeats 2000000 in
theorem declsText_ok (xs : List DVar) (v : Value) (w : World) (hv : SlAt 3 48 RVar 0 w v xs) (hvb : ∀ x, x ∈ xs → varB x = true) (hl : xs.length ≤ 500) :
    Calls Tryz.prog 32 #[v] w (Ans (.string (jnT Lsemi (xs.map dlT))) w) := by
  obtain ⟨a, cap0, rfl, _, hn, hx⟩ := hv
  unfold Len at hn
  have HX := hide hx
  have HVB := hide hvb
  clear hx hvb
  go_enter Tryz.func32, Tryz.ntmps32
  go_wp2_with (at_make; go_must (refine wpList_make_row w rfl _ _ 40 rfl 9 _ _ uStrs iStr (by decide) _ xs.length rfl rfl rfl (by omega) ?_))
  intro wA cs0 hrow0 hsz0 hbA
  have HR0 := hide hrow0
  have HS0 := hide hsz0
  have HBA := hide hbA
  have hsA := hbA.size
  clear hrow0 hsz0 hbA
  go_wp2
  go_loopg [11] xs.length (fun gh i wr => ∃ (k : Nat), k ≤ xs.length ∧ gh = xs.length - k ∧ i = .int .i64 k ∧ Below w.heap.size w wr ∧
    ∃ cs, BlkAt wr w.heap.size 9 cs ∧ cs.size = xs.length ∧ ∀ i, i < k → (hi : i < xs.length) → cs[i]? = some (.string (dlT xs[i])))
  case atStart => exact ⟨0, Nat.zero_le _, by omega, rfl, unhide HBA, cs0, unhide HR0, unhide HS0, fun i hi => absurd hi (Nat.not_lt_zero _)⟩
  case round =>
    obtain ⟨k, hk, hg, rfl, hbl, cs1, hrow, hsz, hcs1⟩ := hrel
    rename World => wN
    have HG := hide hg
    have HROW := hide hrow
    have HSZ := hide hsz
    have HC1 := hide hcs1
    have HBN := hide hbl
    have hgl := hrow.lt
    clear hg hrow hsz hcs1
    by_cases hlt : k < xs.length
    · obtain ⟨b, o, cs, hbo, _, hb, hcs, hc0, hR⟩ := unhide HX k hlt
      subst hbo
      have hc : ∀ j (hj : j < cs.length), wN.cell? ⟨b, o + k * 3 + j, none⟩ = some cs[j] := fun j hj => by rw [hbl.cell (p := ⟨b, _, none⟩) hb]; exact hc0 j hj
      have HR := hide hR
      obtain ⟨cl, rfl, hsn, hty, hcl⟩ := hR
      have c0 := hc 0 (by simp)
      have c1 := hc 1 (by simp)
      have c2 := hc 2 (by simp)
      simp only [Nat.mul_one, Nat.add_zero, List.getElem_cons_zero, List.getElem_cons_succ] at c0 c1 c2
      have hxb := unhide HVB xs[k] (List.getElem_mem hlt)
      have P1 : Hid (Below wN.heap.size wN (wN.alloc (.cells #[.string xs[k].name, .int .i64 xs[k].type, cl] 64))) := (Below.refl _ _).alloc (Nat.le_refl _) _
      have HC := hide (declText_ok xs[k] cl (wN.alloc (.cells #[.string xs[k].name, .int .i64 xs[k].type, cl] 64)) (name_size _ ((var_iff xs[k]).1 hxb).1) ((hcl.stays RCond_kept hbl).stays RCond_kept (unhide P1)) hxb)
      obtain ⟨acl, ccl, rfl⟩ := hcl.shape
      have hks : k < cs1.size := by rw [unhide HSZ]; exact hlt
      have HZ : Hid (∀ i, i < k + 1 → (hi : i < xs.length) → (cs1.setIfInBounds k (.string (dlT xs[k])))[i]? = some (.string (dlT xs[i]))) := by
        show ∀ i, i < k + 1 → (hi : i < xs.length) → (cs1.setIfInBounds k (.string (dlT xs[k])))[i]? = some (.string (dlT xs[i]))
        intro i hi hi2
        by_cases hik : i = k
        · subst hik
          simp [hks]
        · rw [Array.getElem?_setIfInBounds_ne (by omega)]
          exact unhide HC1 i (by omega) hi2
      clear hc hc0 hcs hty hxb HR hcl
      generalize dlT xs[k] = dl at *
      generalize xs[k].clock.length = ncl at *
      generalize xs[k].name = nm at *
      generalize xs[k].type = ty at *
      go_wp2_with fail
      refine (unhide HC).mono ?_
      rintro e w1 ⟨rfl, hb1⟩
      have HQ1 : Hid (Below wN.heap.size wN w1) := (unhide P1).trans (hb1.mono (unhide P1).size)
      have HR1 := hide ((unhide HROW).below (unhide HQ1) hgl)
      have ck := (unhide HR1).cell (i := k) (v := cs1[k]) (by simp [hks])
      have fk := (unhide HR1).free k
      clear hb1
      generalize cs1[k] = old at *
      go_wp2
      go_roundg (xs.length - (k + 1))
      case measure => have := unhide HG; omega
      case rel => exact ⟨k + 1, by omega, rfl, by go_num, (hbl.trans ((unhide HQ1).mono hbl.size)).setCell (Nat.le_refl _) _, _, (unhide HR1).set k _, by simp [unhide HSZ], unhide HZ⟩
    · have e : k = xs.length := by omega
      subst e
      have HC := hide (strJoin_ok (xs.map dlT) Lsemi (some ⟨w.heap.size, 0, none⟩) xs.length wN (fun i hi => ⟨w.heap.size, 0, rfl, hgl, by
          have hi' : i < xs.length := by simpa using hi
          rw [Nat.zero_add, (unhide HROW).cell (unhide HC1 i hi' hi')]
          simp⟩) (by simp) (by decide) (fun x hx => by
          obtain ⟨y, hy, rfl⟩ := List.mem_map.1 hx
          have := dlT_size y (unhide HVB y hy)
          omega) (by rw [List.length_map]; omega))
      rw [List.length_map] at HC
      go_wp2_with fail
      refine (unhide HC).mono ?_
      rintro e w1 ⟨rfl, hb1⟩
      go_wp2
      go_ret
      exact ⟨rfl, hbl.trans (hb1.mono hbl.size)⟩

end Go.Proofs.YtlgeioedgaajoaaGreatDoor
