import Derived.Test.YtlgeioedgaajoaaGreatDoorTxt
import Derived.Test.YtlgeioedgaajoaaGreatDoorOwn
import Derived.Deep.RegionWith
import Derived.RegionTactic
import Derived.Test.YtlgeioedgaajoaaGreatDoorBegAt
namespace Go.Proofs.YtlgeioedgaajoaaGreatDoor
open Go.RowKit
set_option linter.unusedSimpArgs false
set_option linter.unusedVariables false

theorem ret_str {a b : ByteArray} (h : a = b) : Ending.returned (.string a) = .returned (.string b) := by rw [h]

theorem l1Flag_ok (v : Int) (w : World) :
    Calls Tryz.prog 25 #[.int .i64 v] w fun e w' => e = .returned (.string (flT v)) ∧ w' = w := by
  go_enter Tryz.func25, Tryz.ntmps25
  go_wp2
  all_goals
    go_ret
    refine ⟨ret_str ?_, rfl⟩
    simp_all [flT, Ltrue, Lfalse]

theorem dig_at : ∀ k : Nat, k < 10 → (ByteArray.mk #[48, 49, 50, 51, 52, 53, 54, 55, 56, 57]).extract k (k + 1) = ⟨#[UInt8.ofNat (48 + k)]⟩ := by decide
theorem dc_small (n : Nat) (h : n < 10) : dcT n = ⟨#[UInt8.ofNat (48 + n)]⟩ := by
  unfold dcT Lib.itoa
  rw [if_neg (by omega), Int.toNat_natCast, Lib.decDigits, dif_pos h]
theorem dc_big (n : Nat) (h : ¬ n < 10) : dcT n = dcT (n / 10 : Nat) ++ ⟨#[UInt8.ofNat (48 + n % 10)]⟩ := by
  unfold dcT Lib.itoa
  rw [if_neg (by omega), if_neg (by omega), Int.toNat_natCast, Int.toNat_natCast, Lib.decDigits, dif_neg h]
  apply ByteArray.ext
  simp [ByteArray.data_append]
theorem dc_neg (n : Int) (h : n < 0) : dcT n = ⟨#[45]⟩ ++ dcT (-n) := by
  unfold dcT Lib.itoa
  rw [if_pos h, if_neg (by omega)]
  have : n.natAbs = (-n).toNat := by omega
  rw [this]
  apply ByteArray.ext
  simp [ByteArray.data_append]

theorem l1Dec_up (n : Nat) : n ≤ 2147483647 → ∀ (w : World),
    Calls Tryz.prog 24 #[.int .i64 (n : Int)] w (Ans (.string (dcT n)) w) := by
  induction n using Nat.strongRecOn with
  | _ n ih =>
    intro hn w
    by_cases h : n < 10
    · have HD := hide (dc_small n h)
      have HE := hide (dig_at n h)
      clear ih
      generalize dcT n = dn at *
      go_enter Tryz.func24, Tryz.ntmps24
      go_wp2
      go_ret
      exact ⟨ret_str (by rw [unhide HD]; exact unhide HE), Below.refl _ _⟩
    · obtain ⟨q, hq⟩ : ∃ q, q = n / 10 := ⟨_, rfl⟩
      obtain ⟨r, hr⟩ : ∃ r, r = n % 10 := ⟨_, rfl⟩
      have IH := hide (ih q (by omega) (by omega))
      have hsz : (dcT (q : Nat)).size ≤ 11 := dcT_size _ (by omega)
      have HD := dc_big n h
      rw [← hq, ← hr] at HD
      have HD := hide HD
      have HE := hide (dig_at r (by omega))
      clear ih
      have hdv : IntKind.i64.wrap ((n : Int) / 10) = (q : Int) := by rw [IntKind.wrap_i64]; omega
      have hmd : (n : Int).tmod 10 = (r : Int) := by rw [Int.tmod_eq_emod_of_nonneg (by omega)]; omega
      have hr10 : r < 10 := by omega
      have hx0 : IntKind.i64.wrap ((r : Int) + 1) = (r : Int) + 1 := by rw [IntKind.wrap_i64]; omega
      have hx1 : (0 : Int) ≤ (r : Int) := by omega
      have hx2 : (r : Int) ≤ (r : Int) + 1 := by omega
      have hx3 : (r : Int) + 1 ≤ 10 := by omega
      have hx4 : r + 1 ≤ 10 := by omega
      clear hq hr
      generalize dcT n = dn at *
      generalize dcT (q : Nat) = dq at *
      go_enter Tryz.func24, Tryz.ntmps24
      go_wp2_with fail
      go_region_with (first | (go_at_call 24; refine (unhide IH _).mono ?_; rintro e w' ⟨rfl, hb⟩))
      all_goals
        go_wp2
        go_ret
        exact ⟨ret_str (by rw [unhide HD]; exact congrArg _ (unhide HE)), (Below.refl _ w).drew.trans hb⟩

theorem l1Dec_ok (n : Int) (h : -2147483647 ≤ n ∧ n ≤ 2147483647) (w : World) :
    Calls Tryz.prog 24 #[.int .i64 n] w (Ans (.string (dcT n)) w) := by
  by_cases h0 : 0 ≤ n
  · obtain ⟨k, rfl⟩ := Int.eq_ofNat_of_zero_le h0
    exact l1Dec_up k (by omega) w
  · have hneg : n < 0 := by omega
    obtain ⟨k, hk⟩ := Int.eq_ofNat_of_zero_le (show 0 ≤ -n from by omega)
    have HC := hide (l1Dec_up k (by omega))
    have HD := dc_neg n hneg
    rw [hk] at HD
    have HD := hide HD
    have hq : (dcT (k : Nat)).size ≤ 11 := dcT_size _ (by omega)
    generalize dcT n = dn at *
    generalize dcT (k : Nat) = dq at *
    go_enter Tryz.func24, Tryz.ntmps24
    go_wp2_with fail
    refine (unhide HC _).mono ?_
    rintro e w' ⟨rfl, hb⟩
    go_wp2
    go_ret
    exact ⟨ret_str (unhide HD).symm, hb⟩

end Go.Proofs.YtlgeioedgaajoaaGreatDoor
namespace Go.Proofs.YtlgeioedgaajoaaGreatDoor
open Go.RowKit
set_option linter.unusedSimpArgs false
set_option linter.unusedVariables false

theorem jn_small (sep : ByteArray) (xs : List ByteArray) (hs : sep.size ≤ 10) (hx : ∀ x, x ∈ xs → x.size ≤ 1000000) (hl : xs.length ≤ 1000) (k : Nat) : (jnT sep (xs.take k)).size ≤ 2000000000 := by
  have h := jnT_size sep (xs.take k) 1000000 (fun x hx' => hx x (List.mem_of_mem_take hx'))
  have h2 : (xs.take k).length ≤ 1000 := by rw [List.length_take]; omega
  have h3 : sep.size * (xs.take k).length ≤ 10 * 1000 := Nat.mul_le_mul hs h2
  omega

set_option maxHeartbeats 1000000 in
theorem l1Join_ok (sep : ByteArray) (xs : List ByteArray) (v : Value) (w : World) (hv : SlAt 1 16 RStr 0 w v xs) (hs : sep.size ≤ 10) (hxs : ∀ x, x ∈ xs → x.size ≤ 1000000) (hl : xs.length ≤ 1000) :
    Calls Tryz.prog 11 #[v, .string sep] w fun e w' => e = .returned (.string (jnT sep xs)) ∧ w' = w := by
  have HJ := hide (jn_small sep xs hs hxs hl)
  have HXS := hide hxs
  clear hxs
  obtain ⟨a, cap, rfl, _, hn, hx⟩ := hv
  unfold Len at hn
  have HX := hide hx
  clear hx
  go_enter Tryz.func11, Tryz.ntmps11
  go_wp2
  go_loopg [5, 6, 7, 10] xs.length (fun g out x1 x2 i wr => ∃ (k : Nat), k ≤ xs.length ∧ g = xs.length - k ∧ i = .int .i64 k ∧ out = .string (jnT sep (xs.take k)) ∧ wr = w)
  case atStart => exact ⟨0, Nat.zero_le _, by omega, rfl, by rw [List.take_zero, jnT_nil]; rfl, rfl⟩
  case round =>
    obtain ⟨k, hk, hg, rfl, rfl, rfl⟩ := hrel
    have HG := hide hg
    clear hg
    have hz := unhide HJ k
    by_cases hlt : k < xs.length
    · obtain ⟨b, o, cs, rfl, _, hb, hcs, hc, hR⟩ := unhide HX k hlt
      obtain ⟨rfl, hsn⟩ := hR
      have c0 := hc 0 (by simp)
      simp only [Nat.mul_one, Nat.add_zero, List.getElem_cons_zero, List.getElem_cons_succ] at c0
      have hz2 := unhide HXS xs[k] (List.getElem_mem hlt)
      clear hc hcs hsn
      by_cases hk0 : k = 0
      · have HT : Hid (jnT sep (xs.take (k + 1)) = jnT sep (xs.take k) ++ xs[k]) := by
          show jnT sep (xs.take (k + 1)) = jnT sep (xs.take k) ++ xs[k]
          subst hk0
          rw [List.take_succ_eq_append_getElem hlt, List.take_zero, List.nil_append, jnT_one, jnT_nil, ba_nil']
        subst hk0
        simp only [Nat.add_zero] at c0
        generalize jnT sep (xs.take 0) = tx at *
        generalize xs[0] = x at *
        go_wp2
        go_roundg (xs.length - 1)
        case measure => have := unhide HG; omega
        case rel => exact ⟨1, by omega, rfl, by go_num, by rw [unhide HT], rfl⟩
      · have HT := hide (jnT_step sep xs k hlt (by omega))
        generalize jnT sep (xs.take k) = tx at *
        generalize xs[k] = x at *
        go_wp2
        go_roundg (xs.length - (k + 1))
        case measure => have := unhide HG; omega
        case rel => exact ⟨k + 1, by omega, rfl, by go_num, by rw [unhide HT], rfl⟩
    · have e : k = xs.length := by omega
      have HT : Hid (jnT sep xs = jnT sep (xs.take k)) := by
        show jnT sep xs = jnT sep (xs.take k)
        rw [e, List.take_length]
      generalize jnT sep (xs.take k) = tx at *
      go_wp2
      go_ret
      exact ⟨ret_str (unhide HT).symm, rfl⟩

set_option maxHeartbeats 1000000 in
theorem l1Decl_ok (x : DVar) (cl : Value) (w : World) (hn : x.name.size ≤ 40) (hcl : SlAt 2 24 RCond 0 w cl x.clock) (hvb : varB x = true) :
    Calls Tryz.prog 23 #[.agg #[.string x.name, .int .i64 x.type, cl]] w (Ans (.string (dlT x)) w) := by
  have HZ := hide (dlTo_size x hvb)
  have HCN : Hid (∀ c, c ∈ x.clock → c.name.size ≤ 40) := fun c hc => name_size _ (List.all_eq_true.1 ((var_iff x).1 hvb).2.2.2 c hc)
  have h8 := ((var_iff x).1 hvb).2.2.1
  have HVB := hide hvb
  clear hvb
  obtain ⟨a, cap, rfl, _, hln, hx⟩ := hcl
  unfold Len at hln
  have HX := hide hx
  clear hx
  have HD0 := hide (dlTo_zero x)
  have HDL : Hid (dlT x = dlTo x x.clock.length) := rfl
  have HDS := hide (dlTo_succ x)
  generalize dlT x = dl at *
  generalize dlTo x = dt at *
  obtain ⟨nm, ty, clk⟩ := x
  simp only at *
  by_cases hty : ty = 2
  · subst hty
    rw [if_pos rfl] at HD0
    have P0 := hide ((Below.refl w.heap.size w).alloc (Nat.le_refl _) (.cells #[.string nm, .int .i64 2, .slice a clk.length cap] 64))
    go_enter Tryz.func23, Tryz.ntmps23
    go_wp2
    go_loopg [3, 18] clk.length (fun g out i wr => ∃ (k : Nat), k ≤ clk.length ∧ g = clk.length - k ∧ i = .int .i64 k ∧ out = .string (dt k) ∧ Below w.heap.size w wr)
    case atStart => exact ⟨0, Nat.zero_le _, by omega, rfl, by rw [unhide HD0]; rfl, unhide P0⟩
    case round =>
      obtain ⟨k, hk, hg, rfl, rfl, hbl⟩ := hrel
      have HG := hide hg
      clear hg
      have hz := unhide HZ k hk
      by_cases hlt : k < clk.length
      · obtain ⟨b, o, cs, rfl, _, hb, hcs, hc, hR⟩ := unhide HX k hlt
        have hc : ∀ j (hj : j < cs.length), wr.cell? ⟨b, o + k * 2 + j, none⟩ = some cs[j] := fun j hj => by rw [hbl.cell (p := ⟨b, _, none⟩) hb]; exact hc j hj
        obtain ⟨rfl, hsn⟩ := hR
        have c0 := hc 0 (by simp)
        have c1 := hc 1 (by simp)
        simp only [Nat.mul_one, Nat.add_zero, List.getElem_cons_zero, List.getElem_cons_succ] at c0 c1
        have hz2 := unhide HCN clk[k] (List.getElem_mem hlt)
        have HT := hide (unhide HDS k hlt)
        clear hc hcs hsn
        generalize dt k = dk at *
        generalize clk[k] = c at *
        obtain ⟨cn, co⟩ := c
        simp only at *
        cases co
        all_goals
          go_wp2
          go_roundg (clk.length - (k + 1))
          case measure => have := unhide HG; omega
          case rel => exact ⟨k + 1, by omega, rfl, by go_num, by rw [unhide HT]; rfl, hbl.trans ((Below.refl _ _).alloc hbl.size _)⟩
      · have e : k = clk.length := by omega
        subst e
        generalize dt clk.length = dk at *
        go_wp2
        go_ret
        exact ⟨ret_str (unhide HDL).symm, hbl⟩
  · rw [if_neg hty] at HD0
    have P0 := hide ((Below.refl w.heap.size w).alloc (Nat.le_refl _) (.cells #[.string nm, .int .i64 ty, .slice a clk.length cap] 64))
    go_enter Tryz.func23, Tryz.ntmps23
    go_wp2
    go_loopg [3, 18] clk.length (fun g out i wr => ∃ (k : Nat), k ≤ clk.length ∧ g = clk.length - k ∧ i = .int .i64 k ∧ out = .string (dt k) ∧ Below w.heap.size w wr)
    case atStart => exact ⟨0, Nat.zero_le _, by omega, rfl, by rw [unhide HD0]; rfl, unhide P0⟩
    case round =>
      obtain ⟨k, hk, hg, rfl, rfl, hbl⟩ := hrel
      have HG := hide hg
      clear hg
      have hz := unhide HZ k hk
      by_cases hlt : k < clk.length
      · obtain ⟨b, o, cs, rfl, _, hb, hcs, hc, hR⟩ := unhide HX k hlt
        have hc : ∀ j (hj : j < cs.length), wr.cell? ⟨b, o + k * 2 + j, none⟩ = some cs[j] := fun j hj => by rw [hbl.cell (p := ⟨b, _, none⟩) hb]; exact hc j hj
        obtain ⟨rfl, hsn⟩ := hR
        have c0 := hc 0 (by simp)
        have c1 := hc 1 (by simp)
        simp only [Nat.mul_one, Nat.add_zero, List.getElem_cons_zero, List.getElem_cons_succ] at c0 c1
        have hz2 := unhide HCN clk[k] (List.getElem_mem hlt)
        have HT := hide (unhide HDS k hlt)
        clear hc hcs hsn
        generalize dt k = dk at *
        generalize clk[k] = c at *
        obtain ⟨cn, co⟩ := c
        simp only at *
        cases co
        all_goals
          go_wp2
          go_roundg (clk.length - (k + 1))
          case measure => have := unhide HG; omega
          case rel => exact ⟨k + 1, by omega, rfl, by go_num, by rw [unhide HT]; rfl, hbl.trans ((Below.refl _ _).alloc hbl.size _)⟩
      · have e : k = clk.length := by omega
        subst e
        generalize dt clk.length = dk at *
        go_wp2
        go_ret
        exact ⟨ret_str (unhide HDL).symm, hbl⟩

end Go.Proofs.YtlgeioedgaajoaaGreatDoor
namespace Go.Proofs.YtlgeioedgaajoaaGreatDoor
open Go.RowKit
set_option linter.unusedSimpArgs false
set_option linter.unusedVariables false

/-- What is gathered after k. -/
def mapTo {α : Type} (f : α → ByteArray) (l : List α) (k : Nat) : List ByteArray := (l.take k).map f
theorem mapTo_zero {α : Type} (f : α → ByteArray) (l : List α) : mapTo f l 0 = [] := by simp [mapTo]
theorem mapTo_all {α : Type} (f : α → ByteArray) (l : List α) : mapTo f l l.length = l.map f := by simp [mapTo]
theorem mapTo_succ {α : Type} (f : α → ByteArray) (l : List α) (k : Nat) (h : k < l.length) : mapTo f l (k + 1) = mapTo f l k ++ [f l[k]] := by
  unfold mapTo
  rw [List.take_succ_eq_append_getElem h, List.map_append]
  rfl
theorem mapTo_length {α : Type} (f : α → ByteArray) (l : List α) (k : Nat) (h : k ≤ l.length) : (mapTo f l k).length = k := by
  unfold mapTo
  rw [List.length_map, List.length_take]
  omega

set_option maxHeartbeats 2000000 in
theorem l1Decls_ok (xs : List DVar) (v : Value) (w : World) (hv : SlAt 3 48 RVar 0 w v xs) (hvb : ∀ x, x ∈ xs → varB x = true) (hl : xs.length ≤ 500) :
    Calls Tryz.prog 12 #[v] w fun e w' => ∃ v, e = .returned v ∧ SlAt 1 16 RStr 0 w' v (xs.map dlT) ∧ Below w.heap.size w w' := by
  obtain ⟨a, cap0, rfl, _, hn, hx⟩ := hv
  unfold Len at hn
  have HX := hide hx
  have HVB := hide hvb
  clear hx hvb
  have O0 : Hid (OwnStrs (w.alloc (.cells #[] 9)) w.heap.size w.heap.size 0 []) := OwnStrs.start w w.heap.size (Nat.le_refl _)
  go_enter Tryz.func12, Tryz.ntmps12
  go_wp2
  go_loopg [3, 9] xs.length (fun gh vv i wr => ∃ (k g cap : Nat), k ≤ xs.length ∧ gh = xs.length - k ∧ i = .int .i64 k ∧ vv = .slice (some ⟨g, 0, none⟩) k cap ∧ OwnStrs wr w.heap.size g cap (mapTo dlT xs k) ∧ Below w.heap.size w wr)
  case atStart => exact ⟨0, w.heap.size, 0, Nat.zero_le _, by omega, rfl, rfl, by rw [mapTo_zero]; exact unhide O0, (Below.refl _ _).alloc (Nat.le_refl _) _⟩
  case round =>
    obtain ⟨k, g, cap, hk, hg, rfl, rfl, hown, hbl⟩ := hrel
    rename World => wN
    have HG := hide hg
    have HOW := hide hown
    have HBN := hide hbl
    have hgb := hown.base
    have hNs : w.heap.size ≤ wN.heap.size := hbl.size
    have HLEN := hide (mapTo_length dlT xs k hk)
    clear hg hown
    by_cases hlt : k < xs.length
    · obtain ⟨b, o, cs, hbo, _, hb, hcs, hc, hR⟩ := unhide HX k hlt
      subst hbo
      have hc : ∀ j (hj : j < cs.length), wN.cell? ⟨b, o + k * 3 + j, none⟩ = some cs[j] := fun j hj => by rw [hbl.cell (p := ⟨b, _, none⟩) hb]; exact hc j hj
      have HR := hide hR
      obtain ⟨cl, rfl, hsn, hty, hcl⟩ := hR
      have c0 := hc 0 (by simp)
      have c1 := hc 1 (by simp)
      have c2 := hc 2 (by simp)
      simp only [Nat.mul_one, Nat.add_zero, List.getElem_cons_zero, List.getElem_cons_succ] at c0 c1 c2
      have HT := hide (mapTo_succ dlT xs k hlt)
      have hxb := unhide HVB xs[k] (List.getElem_mem hlt)
      have P1 : Hid (Below wN.heap.size wN (wN.alloc (.cells #[.string xs[k].name, .int .i64 xs[k].type, cl] 64))) := (Below.refl _ _).alloc (Nat.le_refl _) _
      have HC := hide (l1Decl_ok xs[k] cl (wN.alloc (.cells #[.string xs[k].name, .int .i64 xs[k].type, cl] 64)) (name_size _ ((var_iff xs[k]).1 hxb).1) ((hcl.stays RCond_kept hbl).stays RCond_kept (unhide P1)) hxb)
      obtain ⟨acl, ccl, rfl⟩ := hcl.shape
      clear hc hcs hty hxb HR hcl
      generalize mapTo dlT xs k = ys at *
      generalize dlT xs[k] = dl at *
      generalize xs[k].clock.length = ncl at *
      generalize xs[k].name = nm at *
      generalize xs[k].type = ty at *
      go_wp2_with fail
      refine (unhide HC).mono ?_
      rintro e w1 ⟨rfl, hb1⟩
      have HQ1 : Hid (Below wN.heap.size wN w1) := (unhide P1).trans (hb1.mono (unhide P1).size)
      have HO1 : Hid (OwnStrs (w1.alloc (.cells #[.string dl] 9)) w.heap.size g cap ys) := (unhide HOW).below ((unhide HQ1).alloc (unhide HQ1).size _)
      have HQ2 : Hid (Below w.heap.size w (w1.alloc (.cells #[.string dl] 9))) := (unhide HBN).trans (((unhide HQ1).alloc (unhide HQ1).size _).mono hNs)
      have hs1 : wN.heap.size ≤ w1.heap.size := (unhide HQ1).size
      clear hb1
      go_wp2_with (at_builtin; go_must (refine wpList_append_oneStrs _ rfl _ _ rfl w.heap.size g cap ys (by rw [unhide HLEN]; rfl) (unhide HO1) w1.heap.size dl rfl (by rw [World.cell?_alloc_at _ _ _ _ (by simp)]; rfl) (by rw [unhide HLEN]; omega) (by simp; omega) ?_))
      intro g' cap' w7 hown7 hgr7
      have B7 := grow_below (unhide HQ2) hgr7 (by simp; omega) hgb
      rw [← unhide HT] at hown7
      have HO7 := hide hown7
      have HB7 := hide B7
      rw [unhide HLEN]
      clear hown7 hgr7 B7
      go_wp2
      go_roundg (xs.length - (k + 1))
      case measure => have := unhide HG; omega
      case rel => exact ⟨k + 1, g', cap', by omega, rfl, by go_num, rfl, unhide HO7, unhide HB7⟩
    · have e : k = xs.length := by omega
      have HOE : Hid (OwnStrs wN w.heap.size g cap (xs.map dlT)) := by
        have := unhide HOW
        rw [e, mapTo_all] at this
        exact this
      have HD := hide ((unhide HOE).at (fun x hx => ⟨rfl, by
        obtain ⟨y, hy, rfl⟩ := List.mem_map.1 hx
        have := dlT_size y (unhide HVB y hy)
        unfold Len
        omega⟩) (by rw [List.length_map]; omega))
      rw [List.length_map] at HD
      subst e
      go_wp2
      go_ret
      exact ⟨_, rfl, unhide HD, hbl⟩

/-- A slice whose cells are known. -/
theorem flatAt {α : Type} {R : Nat → World → List Value → α → Prop} (f : α → Value) (byt : Nat) (xs : List α) (w : World) (g cap : Nat) (hg : g < w.heap.size) (hc : ∀ (i : Nat) (h : i < xs.length), w.cell? ⟨g, i, none⟩ = some (f xs[i]))
    (hR : ∀ x, x ∈ xs → R 0 w [f x] x) (hl : xs.length ≤ 1000) (hb : byt ≤ 100) (hcap : xs.length ≤ cap) : SlAt 1 byt R 0 w (.slice (some ⟨g, 0, none⟩) xs.length cap) xs := by
  refine ⟨_, cap, rfl, ⟨?_, hcap⟩, by unfold Len; omega, fun i hi => ⟨g, 0, [f xs[i]], rfl, Nat.zero_le _, hg, rfl, fun j hj => ?_, hR _ (List.getElem_mem hi)⟩⟩
  · unfold Len
    have : xs.length * byt ≤ 1000 * 100 := Nat.mul_le_mul hl hb
    omega
  · have hj0 : j = 0 := by simpa using hj
    subst hj0
    simp only [Nat.zero_add, Nat.mul_one, Nat.add_zero, List.getElem_cons_zero]
    exact hc i hi

def sgL : Nat → List ByteArray
  | 1 => [⟨#[111, 114]⟩, ⟨#[120, 111, 114]⟩]
  | 2 => [⟨#[97, 110, 100]⟩]
  | 3 => [⟨#[61]⟩, ⟨#[60, 62]⟩, ⟨#[60]⟩, ⟨#[60, 61]⟩, ⟨#[62]⟩, ⟨#[62, 61]⟩]
  | 4 => [⟨#[43]⟩, ⟨#[45]⟩]
  | 5 => [⟨#[42]⟩, ⟨#[47]⟩, ⟨#[109, 111, 100]⟩]
  | _ => []
def opL : Nat → List Int
  | 1 => [18, 19]
  | 2 => [17]
  | 3 => [11, 12, 13, 14, 15, 16]
  | 4 => [6, 7]
  | 5 => [8, 9, 10]
  | _ => []

set_option maxHeartbeats 1000000 in
theorem l1Ops_1 (w : World) : Calls Tryz.prog 41 #[.int .i64 1] w fun e w' => ∃ a b, e = .returned (.tuple #[a, b]) ∧ SlAt 1 16 RStr 0 w' a (sgL 1) ∧ SlAt 1 8 RInt 0 w' b (opL 1) ∧ Below w.heap.size w w' := by
  go_enter Tryz.func41, Tryz.ntmps41
  go_wp2
  go_ret2
  have hs : ∀ x, x ∈ sgL 1 → x.size ≤ 3 := by decide
  have ho : ∀ x, x ∈ opL 1 → 0 ≤ x ∧ x ≤ 100 := by decide
  refine ⟨_, _, rfl, flatAt Value.string 16 (sgL 1) _ w.heap.size _ ?_ ?_ ?_ (by decide) (by decide) (by decide), flatAt (Value.int .i64) 8 (opL 1) _ (w.heap.size + 1) _ ?_ ?_ ?_ (by decide) (by decide) (by decide), ((Below.refl _ _).alloc (Nat.le_refl _) _).alloc (by simp) _⟩
  · simp; omega
  · intro i hi
    rw [World.cell?_alloc_old _ _ _ (by simp), World.cell?_alloc_at _ _ _ _ rfl]
    have hc : ∀ (i : Nat) (hi : i < (sgL 1).length), ((sgL 1).map Value.string).toArray[i]? = some (.string (sgL 1)[i]) := by
      intro i hi
      simp [hi]
    exact hc i hi
  · exact fun x hx => ⟨rfl, by have := hs x hx; unfold Len; omega⟩
  · simp
  · intro i hi
    rw [World.cell?_alloc_at _ _ _ _ (by simp)]
    have hc : ∀ (i : Nat) (hi : i < (opL 1).length), ((opL 1).map (Value.int .i64)).toArray[i]? = some (.int .i64 (opL 1)[i]) := by
      intro i hi
      simp [hi]
    exact hc i hi
  · exact fun x hx => ⟨rfl, by have := ho x hx; unfold I64; omega⟩

set_option maxHeartbeats 1000000 in
theorem l1Ops_2 (w : World) : Calls Tryz.prog 41 #[.int .i64 2] w fun e w' => ∃ a b, e = .returned (.tuple #[a, b]) ∧ SlAt 1 16 RStr 0 w' a (sgL 2) ∧ SlAt 1 8 RInt 0 w' b (opL 2) ∧ Below w.heap.size w w' := by
  go_enter Tryz.func41, Tryz.ntmps41
  go_wp2
  go_ret2
  have hs : ∀ x, x ∈ sgL 2 → x.size ≤ 3 := by decide
  have ho : ∀ x, x ∈ opL 2 → 0 ≤ x ∧ x ≤ 100 := by decide
  refine ⟨_, _, rfl, flatAt Value.string 16 (sgL 2) _ w.heap.size _ ?_ ?_ ?_ (by decide) (by decide) (by decide), flatAt (Value.int .i64) 8 (opL 2) _ (w.heap.size + 1) _ ?_ ?_ ?_ (by decide) (by decide) (by decide), ((Below.refl _ _).alloc (Nat.le_refl _) _).alloc (by simp) _⟩
  · simp; omega
  · intro i hi
    rw [World.cell?_alloc_old _ _ _ (by simp), World.cell?_alloc_at _ _ _ _ rfl]
    have hc : ∀ (i : Nat) (hi : i < (sgL 2).length), ((sgL 2).map Value.string).toArray[i]? = some (.string (sgL 2)[i]) := by
      intro i hi
      simp [hi]
    exact hc i hi
  · exact fun x hx => ⟨rfl, by have := hs x hx; unfold Len; omega⟩
  · simp
  · intro i hi
    rw [World.cell?_alloc_at _ _ _ _ (by simp)]
    have hc : ∀ (i : Nat) (hi : i < (opL 2).length), ((opL 2).map (Value.int .i64)).toArray[i]? = some (.int .i64 (opL 2)[i]) := by
      intro i hi
      simp [hi]
    exact hc i hi
  · exact fun x hx => ⟨rfl, by have := ho x hx; unfold I64; omega⟩

set_option maxHeartbeats 1000000 in
theorem l1Ops_3 (w : World) : Calls Tryz.prog 41 #[.int .i64 3] w fun e w' => ∃ a b, e = .returned (.tuple #[a, b]) ∧ SlAt 1 16 RStr 0 w' a (sgL 3) ∧ SlAt 1 8 RInt 0 w' b (opL 3) ∧ Below w.heap.size w w' := by
  go_enter Tryz.func41, Tryz.ntmps41
  go_wp2
  go_ret2
  have hs : ∀ x, x ∈ sgL 3 → x.size ≤ 3 := by decide
  have ho : ∀ x, x ∈ opL 3 → 0 ≤ x ∧ x ≤ 100 := by decide
  refine ⟨_, _, rfl, flatAt Value.string 16 (sgL 3) _ w.heap.size _ ?_ ?_ ?_ (by decide) (by decide) (by decide), flatAt (Value.int .i64) 8 (opL 3) _ (w.heap.size + 1) _ ?_ ?_ ?_ (by decide) (by decide) (by decide), ((Below.refl _ _).alloc (Nat.le_refl _) _).alloc (by simp) _⟩
  · simp; omega
  · intro i hi
    rw [World.cell?_alloc_old _ _ _ (by simp), World.cell?_alloc_at _ _ _ _ rfl]
    have hc : ∀ (i : Nat) (hi : i < (sgL 3).length), ((sgL 3).map Value.string).toArray[i]? = some (.string (sgL 3)[i]) := by
      intro i hi
      simp [hi]
    exact hc i hi
  · exact fun x hx => ⟨rfl, by have := hs x hx; unfold Len; omega⟩
  · simp
  · intro i hi
    rw [World.cell?_alloc_at _ _ _ _ (by simp)]
    have hc : ∀ (i : Nat) (hi : i < (opL 3).length), ((opL 3).map (Value.int .i64)).toArray[i]? = some (.int .i64 (opL 3)[i]) := by
      intro i hi
      simp [hi]
    exact hc i hi
  · exact fun x hx => ⟨rfl, by have := ho x hx; unfold I64; omega⟩

set_option maxHeartbeats 1000000 in
theorem l1Ops_4 (w : World) : Calls Tryz.prog 41 #[.int .i64 4] w fun e w' => ∃ a b, e = .returned (.tuple #[a, b]) ∧ SlAt 1 16 RStr 0 w' a (sgL 4) ∧ SlAt 1 8 RInt 0 w' b (opL 4) ∧ Below w.heap.size w w' := by
  go_enter Tryz.func41, Tryz.ntmps41
  go_wp2
  go_ret2
  have hs : ∀ x, x ∈ sgL 4 → x.size ≤ 3 := by decide
  have ho : ∀ x, x ∈ opL 4 → 0 ≤ x ∧ x ≤ 100 := by decide
  refine ⟨_, _, rfl, flatAt Value.string 16 (sgL 4) _ w.heap.size _ ?_ ?_ ?_ (by decide) (by decide) (by decide), flatAt (Value.int .i64) 8 (opL 4) _ (w.heap.size + 1) _ ?_ ?_ ?_ (by decide) (by decide) (by decide), ((Below.refl _ _).alloc (Nat.le_refl _) _).alloc (by simp) _⟩
  · simp; omega
  · intro i hi
    rw [World.cell?_alloc_old _ _ _ (by simp), World.cell?_alloc_at _ _ _ _ rfl]
    have hc : ∀ (i : Nat) (hi : i < (sgL 4).length), ((sgL 4).map Value.string).toArray[i]? = some (.string (sgL 4)[i]) := by
      intro i hi
      simp [hi]
    exact hc i hi
  · exact fun x hx => ⟨rfl, by have := hs x hx; unfold Len; omega⟩
  · simp
  · intro i hi
    rw [World.cell?_alloc_at _ _ _ _ (by simp)]
    have hc : ∀ (i : Nat) (hi : i < (opL 4).length), ((opL 4).map (Value.int .i64)).toArray[i]? = some (.int .i64 (opL 4)[i]) := by
      intro i hi
      simp [hi]
    exact hc i hi
  · exact fun x hx => ⟨rfl, by have := ho x hx; unfold I64; omega⟩

set_option maxHeartbeats 1000000 in
theorem l1Ops_5 (w : World) : Calls Tryz.prog 41 #[.int .i64 5] w fun e w' => ∃ a b, e = .returned (.tuple #[a, b]) ∧ SlAt 1 16 RStr 0 w' a (sgL 5) ∧ SlAt 1 8 RInt 0 w' b (opL 5) ∧ Below w.heap.size w w' := by
  go_enter Tryz.func41, Tryz.ntmps41
  go_wp2
  go_ret2
  have hs : ∀ x, x ∈ sgL 5 → x.size ≤ 3 := by decide
  have ho : ∀ x, x ∈ opL 5 → 0 ≤ x ∧ x ≤ 100 := by decide
  refine ⟨_, _, rfl, flatAt Value.string 16 (sgL 5) _ w.heap.size _ ?_ ?_ ?_ (by decide) (by decide) (by decide), flatAt (Value.int .i64) 8 (opL 5) _ (w.heap.size + 1) _ ?_ ?_ ?_ (by decide) (by decide) (by decide), ((Below.refl _ _).alloc (Nat.le_refl _) _).alloc (by simp) _⟩
  · simp; omega
  · intro i hi
    rw [World.cell?_alloc_old _ _ _ (by simp), World.cell?_alloc_at _ _ _ _ rfl]
    have hc : ∀ (i : Nat) (hi : i < (sgL 5).length), ((sgL 5).map Value.string).toArray[i]? = some (.string (sgL 5)[i]) := by
      intro i hi
      simp [hi]
    exact hc i hi
  · exact fun x hx => ⟨rfl, by have := hs x hx; unfold Len; omega⟩
  · simp
  · intro i hi
    rw [World.cell?_alloc_at _ _ _ _ (by simp)]
    have hc : ∀ (i : Nat) (hi : i < (opL 5).length), ((opL 5).map (Value.int .i64)).toArray[i]? = some (.int .i64 (opL 5)[i]) := by
      intro i hi
      simp [hi]
    exact hc i hi
  · exact fun x hx => ⟨rfl, by have := ho x hx; unfold I64; omega⟩

end Go.Proofs.YtlgeioedgaajoaaGreatDoor
namespace Go.Proofs.YtlgeioedgaajoaaGreatDoor
open Go.RowKit
set_option linter.unusedSimpArgs false
set_option linter.unusedVariables false

theorem sgL_map : ∀ k : Nat, 1 ≤ k → k ≤ 5 → sgL k = (opL k).map sgT
  | 0, h, _ => by omega
  | 1, _, _ => by decide
  | 2, _, _ => by decide
  | 3, _, _ => by decide
  | 4, _, _ => by decide
  | 5, _, _ => by decide
  | _ + 6, _, h => by omega
theorem opL_len : ∀ k : Nat, (opL k).length ≤ 6
  | 0 => by decide
  | 1 => by decide
  | 2 => by decide
  | 3 => by decide
  | 4 => by decide
  | 5 => by decide
  | _ + 6 => by simp [opL]
theorem l1Ops_ok (w : World) : ∀ k : Nat, 1 ≤ k → k ≤ 5 → Calls Tryz.prog 41 #[.int .i64 (k : Int)] w fun e w' => ∃ a b, e = .returned (.tuple #[a, b]) ∧ SlAt 1 16 RStr 0 w' a ((opL k).map sgT) ∧ SlAt 1 8 RInt 0 w' b (opL k) ∧ Below w.heap.size w w'
  | 0, h, _ => by omega
  | 1, h1, h2 => by rw [← sgL_map 1 h1 h2]; exact l1Ops_1 w
  | 2, h1, h2 => by rw [← sgL_map 2 h1 h2]; exact l1Ops_2 w
  | 3, h1, h2 => by rw [← sgL_map 3 h1 h2]; exact l1Ops_3 w
  | 4, h1, h2 => by rw [← sgL_map 4 h1 h2]; exact l1Ops_4 w
  | 5, h1, h2 => by rw [← sgL_map 5 h1 h2]; exact l1Ops_5 w
  | _ + 6, _, h => by omega

theorem sg_miss (op : Int) (h : ∀ j, 1 ≤ j → j < 6 → op ∉ opL j) : sgT op = ⟨#[]⟩ := by
  have h1 := h 1 (by omega) (by omega)
  have h2 := h 2 (by omega) (by omega)
  have h3 := h 3 (by omega) (by omega)
  have h4 := h 4 (by omega) (by omega)
  have h5 := h 5 (by omega) (by omega)
  simp only [opL, List.mem_cons, List.not_mem_nil, or_false, not_or] at h1 h2 h3 h4 h5
  unfold sgT
  simp [h1, h2, h3, h4, h5]

set_option maxHeartbeats 1000000 in
theorem l1Sign_ok (op : Int) (w : World) : Calls Tryz.prog 27 #[.int .i64 op] w (Ans (.string (sgT op)) w) := by
  go_enter Tryz.func27, Tryz.ntmps27
  go_wp2
  go_loopg [3] 5 (fun gh kk wr => ∃ (k : Nat), 1 ≤ k ∧ k ≤ 6 ∧ gh = 6 - k ∧ kk = .int .i64 k ∧ Below w.heap.size w wr ∧ ∀ j, 1 ≤ j → j < k → op ∉ opL j)
  case atStart => exact ⟨1, by omega, by omega, by omega, rfl, Below.refl _ _, fun j h1 h2 => by omega⟩
  case round =>
    obtain ⟨k, hk1, hk, hg, rfl, hbl, hno⟩ := hrel
    rename World => wN
    have HG := hide hg
    have HNO := hide hno
    clear hg hno
    by_cases hlt : k ≤ 5
    · have HC := hide (l1Ops_ok wN k hk1 hlt)
      have hlen := opL_len k
      go_wp2_with fail
      refine (unhide HC).mono ?_
      rintro e w1 ⟨va, vb, rfl, hva, hvb, hb1⟩
      obtain ⟨a1, cp1, rfl, _, _, hx1⟩ := hva
      obtain ⟨a2, cp2, rfl, _, _, hx2⟩ := hvb
      have HX1 := hide hx1
      have HX2 := hide hx2
      have HB1 : Hid (Below w.heap.size w w1) := hbl.trans (hb1.mono hbl.size)
      clear hx1 hx2 hb1
      rw [List.length_map]
      go_wp2
      go_loopg [6, 18] (opL k).length (fun gh x1 i wr => ∃ (m : Nat), m ≤ (opL k).length ∧ gh = (opL k).length - m ∧ i = .int .i64 m ∧ wr = w1 ∧ ∀ j (h : j < (opL k).length), j < m → (opL k)[j] ≠ op)
      case atStart => exact ⟨0, Nat.zero_le _, by omega, rfl, rfl, fun j _ h => absurd h (Nat.not_lt_zero _)⟩
      case round =>
        obtain ⟨m, hm, hg, rfl, rfl, hne⟩ := hrel
        have HG2 := hide hg
        have HNE := hide hne
        clear hg hne
        by_cases hml : m < (opL k).length
        · obtain ⟨b2, o2, cs2, rfl, _, hb2, hcs2, hc2, hR2⟩ := unhide HX2 m hml
          obtain ⟨rfl, hi2⟩ := hR2
          have c0 := hc2 0 (by simp)
          simp only [Nat.mul_one, Nat.add_zero, List.getElem_cons_zero, List.getElem_cons_succ] at c0
          obtain ⟨b1, o1, cs1, rfl, _, hb1, hcs1, hc1, hR1⟩ := unhide HX1 m (by rw [List.length_map]; exact hml)
          obtain ⟨rfl, hi1⟩ := hR1
          have d0 := hc1 0 (by simp)
          simp only [Nat.mul_one, Nat.add_zero, List.getElem_cons_zero, List.getElem_cons_succ, List.getElem_map] at d0
          clear hc1 hc2 hcs1 hcs2
          by_cases heq : (opL k)[m] = op
          · rw [heq] at c0 d0
            go_wp2
            go_ret
            exact ⟨rfl, unhide HB1⟩
          · have HA' : Hid (∀ j (h : j < (opL k).length), j < m + 1 → (opL k)[j] ≠ op) := by
              intro j h h1
              by_cases e : j = m
              · subst e; exact heq
              · exact unhide HNE j h (by omega)
            go_wp2
            go_roundg ((opL k).length - (m + 1))
            case measure => have := unhide HG2; omega
            case rel => exact ⟨m + 1, by omega, rfl, by go_num, rfl, unhide HA'⟩
        · have HN2 : Hid (∀ j, 1 ≤ j → j < k + 1 → op ∉ opL j) := by
            intro j h1 h2
            by_cases e : j = k
            · subst e
              intro hmem
              obtain ⟨i, hi, hh⟩ := List.getElem_of_mem hmem
              exact unhide HNE i hi (by omega) hh
            · exact unhide HNO j h1 (by omega)
          go_wp2
          go_roundg (6 - (k + 1))
          case measure => have := unhide HG; omega
          case rel => exact ⟨k + 1, by omega, by omega, rfl, by go_num, unhide HB1, unhide HN2⟩
    · have HS := hide (sg_miss op (fun j h1 h2 => unhide HNO j h1 (by omega)))
      go_wp2
      go_ret
      exact ⟨ret_str (unhide HS).symm, hbl⟩

end Go.Proofs.YtlgeioedgaajoaaGreatDoor
namespace Go.Proofs.YtlgeioedgaajoaaGreatDoor
open Go.RowKit
set_option linter.unusedSimpArgs false
set_option linter.unusedVariables false

/-- An operand ends before e. -/
def Opd (xs : List DItem) (e : Nat) : Prop := ∃ b s, Ch xs b e [s]
theorem Opd.pos {xs : List DItem} {e : Nat} (h : Opd xs e) : ∃ l, e = l + 1 ∧ l < xs.length := by
  obtain ⟨b, s, h⟩ := h
  obtain ⟨m, e1, s0, us, hlt, he, _⟩ := h.snoc_inv (n := 0) rfl
  exact ⟨e1, he, hlt⟩
theorem opT_size {xs : List DItem} (h : ∀ t, t ∈ xs → itB t = true) (hl : xs.length ≤ 3000) (e : Nat) : (opT xs e).size ≤ 300000 := by
  have h1 := st_size (code := xs.take e) (fun t ht => h t (List.mem_of_mem_take ht)) []
  have h2 := last_size ((xs.take e).foldl stC [])
  have h3 := List.length_take_le e xs
  have h4 := List.length_take_le' e xs
  rw [szs_nil] at h1
  unfold opT
  omega

theorem opd_zero {xs : List DItem} {l : Nat} (h : Opd xs (l + 1)) (hlt : l < xs.length) (ha : arN xs[l].op = 0) : opT xs (l + 1) = weave (tsT xs[l]) [] := by
  obtain ⟨b, s, hc⟩ := h
  obtain ⟨_, us, c1, c2, rfl⟩ := hc.last
  rw [ha] at c2
  rw [opT_ch hc, List.eq_nil_of_length_eq_zero c2]
theorem opd_one {xs : List DItem} {l : Nat} (h : Opd xs (l + 1)) (hlt : l < xs.length) (ha : arN xs[l].op = 1) : Opd xs l ∧ opT xs (l + 1) = weave (tsT xs[l]) [opT xs l] := by
  obtain ⟨b, s, hc⟩ := h
  obtain ⟨_, us, c1, c2, rfl⟩ := hc.last
  rw [ha] at c2
  match us, c2 with
  | [u], _ => exact ⟨⟨b, u, c1⟩, by rw [opT_ch hc, opT_ch c1]⟩
theorem ch_two {xs : List DItem} {b e : Nat} {u v : ByteArray} (h : Ch xs b e [u, v]) : ∃ m, Ch xs b m [u] ∧ Ch xs m e [v] := by
  obtain ⟨m, s1, s2, hs, hl, c1, c2⟩ := h.split 1 (by simp)
  match s2, hl with
  | [x], _ =>
    have hl1 : s1.length = 1 := by have := congrArg List.length hs; simp at this; omega
    match s1, hl1, hs with
    | [y], _, hs =>
      simp only [List.cons_append, List.nil_append, List.cons.injEq, and_true] at hs
      obtain ⟨rfl, rfl⟩ := hs
      exact ⟨m, c1, c2⟩
theorem ch_three {xs : List DItem} {b e : Nat} {t u v : ByteArray} (h : Ch xs b e [t, u, v]) : ∃ m, Ch xs b m [t, u] ∧ Ch xs m e [v] := by
  obtain ⟨m, s1, s2, hs, hl, c1, c2⟩ := h.split 1 (by simp)
  match s2, hl with
  | [x], _ =>
    have hl1 : s1.length = 2 := by have := congrArg List.length hs; simp at this; omega
    match s1, hl1, hs with
    | [y, z], _, hs =>
      simp only [List.cons_append, List.nil_append, List.cons.injEq, and_true] at hs
      obtain ⟨rfl, rfl, rfl⟩ := hs
      exact ⟨m, c1, c2⟩
theorem opd_two {xs : List DItem} (har : ∀ t, t ∈ xs → 0 ≤ arI t.op) {l : Nat} (h : Opd xs (l + 1)) (hlt : l < xs.length) (ha : arN xs[l].op = 2) :
    ∃ m, Opd xs l ∧ Opd xs m ∧ m < l + 1 ∧ bgI (xs.take l) = m ∧ opT xs (l + 1) = weave (tsT xs[l]) [opT xs m, opT xs l] := by
  obtain ⟨b, s, hc⟩ := h
  obtain ⟨_, us, c1, c2, rfl⟩ := hc.last
  rw [ha] at c2
  match us, c2 with
  | [u, v], _ =>
    obtain ⟨m, d1, d2⟩ := ch_two c1
    exact ⟨m, ⟨m, v, d2⟩, ⟨b, u, d1⟩, Nat.lt_succ_of_le d2.le, ch_bg har d2 (by omega), by rw [opT_ch hc, opT_ch d1, opT_ch d2]⟩
theorem opd_three {xs : List DItem} (har : ∀ t, t ∈ xs → 0 ≤ arI t.op) {l : Nat} (h : Opd xs (l + 1)) (hlt : l < xs.length) (ha : arN xs[l].op = 3) :
    ∃ m n, Opd xs l ∧ Opd xs m ∧ Opd xs n ∧ m < l + 1 ∧ n < m + 1 ∧ bgI (xs.take l) = m ∧ bgI (xs.take m) = n ∧ opT xs (l + 1) = weave (tsT xs[l]) [opT xs n, opT xs m, opT xs l] := by
  obtain ⟨b, s, hc⟩ := h
  obtain ⟨_, us, c1, c2, rfl⟩ := hc.last
  rw [ha] at c2
  match us, c2 with
  | [t, u, v], _ =>
    obtain ⟨m, d1, d2⟩ := ch_three c1
    obtain ⟨n, f1, f2⟩ := ch_two d1
    have h1 := d2.le
    have h2 := f2.le
    exact ⟨m, n, ⟨m, v, d2⟩, ⟨n, u, f2⟩, ⟨b, t, f1⟩, by omega, by omega, ch_bg har d2 (by omega), ch_bg har f2 (by omega), by rw [opT_ch hc, opT_ch d2, opT_ch f2, opT_ch f1]⟩

theorem box_thru {w w' w1 : World} {o : Obj} (h : Below (w.heap.size + 1) (w.alloc o) w') (hb : Below w'.heap.size w' w1) : Below (w.heap.size + 1) (w.alloc o) w1 := by
  have := h.size
  simp at this
  exact h.trans (hb.mono this)

end Go.Proofs.YtlgeioedgaajoaaGreatDoor
