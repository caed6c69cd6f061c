import Derived.Test.YtmglbkndjnflkaaGreatDoorPureB
import Derived.Test.YtmglbkndjnflkaaGreatDoorFill
import Derived.Test.YtmglbkndjnflkaaGreatDoorChars
import Derived.Deep.RegionWith
import Derived.RegionTactic
import Derived.Deep.RegionHeld3
namespace Go.Proofs.YtmglbkndjnflkaaGreatDoor
open Go.RowKit
set_option linter.unusedSimpArgs false
set_option linter.unusedVariables false

theorem ret_str {a b : ByteArray} (h : a = b) : Ending.returned (.string a) = .returned (.string b) := by rw [h]

theorem l1Flag_ok (v : Int) (w : World) :
    Calls Tryz.prog 67 #[.int .i64 v] w fun e w' => e = .returned (.string (flT v)) ∧ w' = w := by
  go_enter Tryz.func67, Tryz.ntmps67
  go_wp2
  all_goals
    go_ret
    refine ⟨ret_str ?_, rfl⟩
    simp_all [flT, Ltrue, Lfalse]

theorem dig_at : ∀ k : Nat, k < 10 → (ByteArray.mk #[48, 49, 50, 51, 52, 53, 54, 55, 56, 57]).extract k (k + 1) = ⟨#[UInt8.ofNat (48 + k)]⟩ := by decide
theorem dc_small (n : Nat) (h : n < 10) : dcT n = ⟨#[UInt8.ofNat (48 + n)]⟩ := by
  unfold dcT Lib.itoa
  rw [if_neg (by omega), Int.toNat_natCast, Lib.decDigits, dif_pos h]
theorem dc_big (n : Nat) (h : ¬ n < 10) : dcT n = dcT (n / 10 : Nat) ++ ⟨#[UInt8.ofNat (48 + n % 10)]⟩ := by
  unfold dcT Lib.itoa
  rw [if_neg (by omega), if_neg (by omega), Int.toNat_natCast, Int.toNat_natCast, Lib.decDigits, dif_neg h]
  apply ByteArray.ext
  simp [ByteArray.data_append]
theorem dc_neg (n : Int) (h : n < 0) : dcT n = ⟨#[45]⟩ ++ dcT (-n) := by
  unfold dcT Lib.itoa
  rw [if_pos h, if_neg (by omega)]
  have : n.natAbs = (-n).toNat := by omega
  rw [this]
  apply ByteArray.ext
  simp [ByteArray.data_append]

theorem l1Dec_up (n : Nat) : n ≤ 2147483648 → ∀ (w : World),
    Calls Tryz.prog 12 #[.int .i64 (n : Int)] w (Ans (.string (dcT n)) w) := by
  induction n using Nat.strongRecOn with
  | _ n ih =>
    intro hn w
    by_cases h : n < 10
    · have HD := hide (dc_small n h)
      have HE := hide (dig_at n h)
      clear ih
      generalize dcT n = dn at *
      go_enter Tryz.func12, Tryz.ntmps12
      go_wp2
      go_ret
      exact ⟨ret_str (by rw [unhide HD]; exact unhide HE), Below.refl _ _⟩
    · obtain ⟨q, hq⟩ : ∃ q, q = n / 10 := ⟨_, rfl⟩
      obtain ⟨r, hr⟩ : ∃ r, r = n % 10 := ⟨_, rfl⟩
      have IH := hide (ih q (by omega) (by omega))
      have hsz : (dcT (q : Nat)).size ≤ 11 := dcT_sz _ (by unfold N32; omega)
      have HD := dc_big n h
      rw [← hq, ← hr] at HD
      have HD := hide HD
      have HE := hide (dig_at r (by omega))
      clear ih
      have hdv : IntKind.i64.wrap ((n : Int) / 10) = (q : Int) := by rw [IntKind.wrap_i64]; omega
      have hmd : (n : Int).tmod 10 = (r : Int) := by rw [Int.tmod_eq_emod_of_nonneg (by omega)]; omega
      have hr10 : r < 10 := by omega
      have hx0 : IntKind.i64.wrap ((r : Int) + 1) = (r : Int) + 1 := by rw [IntKind.wrap_i64]; omega
      have hx1 : (0 : Int) ≤ (r : Int) := by omega
      have hx2 : (r : Int) ≤ (r : Int) + 1 := by omega
      have hx3 : (r : Int) + 1 ≤ 10 := by omega
      have hx4 : r + 1 ≤ 10 := by omega
      clear hq hr
      generalize dcT n = dn at *
      generalize dcT (q : Nat) = dq at *
      go_enter Tryz.func12, Tryz.ntmps12
      go_wp2_with fail
      go_region_with (first | (go_at_call 12; refine (unhide IH _).mono ?_; rintro e w' ⟨rfl, hb⟩))
      all_goals
        go_wp2
        go_ret
        exact ⟨ret_str (by rw [unhide HD]; exact congrArg _ (unhide HE)), (Below.refl _ w).drew.trans hb⟩

theorem l1Dec_ok (n : Int) (h : -2147483648 ≤ n ∧ n ≤ 2147483648) (w : World) :
    Calls Tryz.prog 12 #[.int .i64 n] w (Ans (.string (dcT n)) w) := by
  by_cases h0 : 0 ≤ n
  · obtain ⟨k, rfl⟩ := Int.eq_ofNat_of_zero_le h0
    exact l1Dec_up k (by omega) w
  · have hneg : n < 0 := by omega
    obtain ⟨k, hk⟩ := Int.eq_ofNat_of_zero_le (show 0 ≤ -n from by omega)
    have HC := hide (l1Dec_up k (by omega))
    have HD := dc_neg n hneg
    rw [hk] at HD
    have HD := hide HD
    have hq : (dcT (k : Nat)).size ≤ 11 := dcT_sz _ (by unfold N32; omega)
    generalize dcT n = dn at *
    generalize dcT (k : Nat) = dq at *
    go_enter Tryz.func12, Tryz.ntmps12
    go_wp2_with fail
    refine (unhide HC _).mono ?_
    rintro e w' ⟨rfl, hb⟩
    go_wp2
    go_ret
    exact ⟨ret_str (unhide HD).symm, hb⟩

theorem jn_small (sep : ByteArray) (xs : List ByteArray) (hs : sep.size ≤ 10) (hx : ∀ x, x ∈ xs → x.size ≤ 100000000) (hl : xs.length ≤ 10000) (k : Nat) : (jnT sep (xs.take k)).size ≤ 2000000000000 := by
  have h := jnT_size sep (xs.take k) 100000000 (fun x hx' => hx x (List.mem_of_mem_take hx'))
  have h2 : (xs.take k).length ≤ 10000 := by rw [List.length_take]; omega
  have h3 : sep.size * (xs.take k).length ≤ 10 * 10000 := Nat.mul_le_mul hs h2
  omega

set_option maxHeartbeats 1000000 in
theorem l1Join_ok (sep : ByteArray) (xs : List ByteArray) (v : Value) (w : World) (hv : SlAt 1 16 RStr 0 w v xs) (hs : sep.size ≤ 10) (hxs : ∀ x, x ∈ xs → x.size ≤ 100000000) (hl : xs.length ≤ 10000) :
    Calls Tryz.prog 24 #[v, .string sep] w fun e w' => e = .returned (.string (jnT sep xs)) ∧ w' = w := by
  have HJ := hide (jn_small sep xs hs hxs hl)
  have HXS := hide hxs
  clear hxs
  obtain ⟨a, cap, rfl, _, hn, hx⟩ := hv
  unfold Len at hn
  have HX := hide hx
  clear hx
  go_enter Tryz.func24, Tryz.ntmps24
  go_wp2
  go_loopg [5, 6, 7, 10] xs.length (fun g out x1 x2 i wr => ∃ (k : Nat), k ≤ xs.length ∧ g = xs.length - k ∧ i = .int .i64 k ∧ out = .string (jnT sep (xs.take k)) ∧ wr = w)
  case atStart => exact ⟨0, Nat.zero_le _, by omega, rfl, by rw [List.take_zero, jnT_nil]; rfl, rfl⟩
  case round =>
    obtain ⟨k, hk, hg, rfl, rfl, rfl⟩ := hrel
    have HG := hide hg
    clear hg
    have hz := unhide HJ k
    by_cases hlt : k < xs.length
    · obtain ⟨b, o, cs, rfl, _, hb, hcs, hc, hR⟩ := unhide HX k hlt
      obtain ⟨rfl, hsn⟩ := hR
      have c0 := hc 0 (by simp)
      simp only [Nat.mul_one, Nat.add_zero, List.getElem_cons_zero, List.getElem_cons_succ] at c0
      have hz2 := unhide HXS xs[k] (List.getElem_mem hlt)
      clear hc hcs hsn
      by_cases hk0 : k = 0
      · have HT : Hid (jnT sep (xs.take (k + 1)) = jnT sep (xs.take k) ++ xs[k]) := by
          show jnT sep (xs.take (k + 1)) = jnT sep (xs.take k) ++ xs[k]
          subst hk0
          rw [List.take_succ_eq_append_getElem hlt, List.take_zero, List.nil_append, jnT_one, jnT_nil, ba_nil']
        subst hk0
        simp only [Nat.add_zero] at c0
        generalize jnT sep (xs.take 0) = tx at *
        generalize xs[0] = x at *
        go_wp2
        go_roundg (xs.length - 1)
        case measure => have := unhide HG; omega
        case rel => exact ⟨1, by omega, rfl, by go_num, by rw [unhide HT], rfl⟩
      · have HT := hide (jnT_step sep xs k hlt (by omega))
        generalize jnT sep (xs.take k) = tx at *
        generalize xs[k] = x at *
        go_wp2
        go_roundg (xs.length - (k + 1))
        case measure => have := unhide HG; omega
        case rel => exact ⟨k + 1, by omega, rfl, by go_num, by rw [unhide HT], rfl⟩
    · have e : k = xs.length := by omega
      have HT : Hid (jnT sep xs = jnT sep (xs.take k)) := by
        show jnT sep xs = jnT sep (xs.take k)
        rw [e, List.take_length]
      generalize jnT sep (xs.take k) = tx at *
      go_wp2
      go_ret
      exact ⟨ret_str (unhide HT).symm, rfl⟩

/-- A slice whose cells are known. -/
theorem flatAt {α : Type} {R : Nat → World → List Value → α → Prop} (f : α → Value) (byt : Nat) (xs : List α) (w : World) (g cap : Nat) (hg : g < w.heap.size) (hc : ∀ (i : Nat) (h : i < xs.length), w.cell? ⟨g, i, none⟩ = some (f xs[i]))
    (hR : ∀ x, x ∈ xs → R 0 w [f x] x) (hl : xs.length ≤ 1000) (hb : byt ≤ 100) (hcap : xs.length ≤ cap) : SlAt 1 byt R 0 w (.slice (some ⟨g, 0, none⟩) xs.length cap) xs := by
  refine ⟨_, cap, rfl, ⟨?_, hcap⟩, by unfold Len; omega, fun i hi => ⟨g, 0, [f xs[i]], rfl, Nat.zero_le _, hg, rfl, fun j hj => ?_, hR _ (List.getElem_mem hi)⟩⟩
  · unfold Len
    have : xs.length * byt ≤ 1000 * 100 := Nat.mul_le_mul hl hb
    omega
  · have hj0 : j = 0 := by simpa using hj
    subst hj0
    simp only [Nat.zero_add, Nat.mul_one, Nat.add_zero, List.getElem_cons_zero]
    exact hc i hi

def sgL : Nat → List ByteArray
  | 1 => [⟨#[111, 114]⟩, ⟨#[120, 111, 114]⟩]
  | 2 => [⟨#[97, 110, 100]⟩]
  | 3 => [⟨#[61]⟩, ⟨#[60, 62]⟩, ⟨#[60]⟩, ⟨#[60, 61]⟩, ⟨#[62]⟩, ⟨#[62, 61]⟩]
  | 4 => [⟨#[43]⟩, ⟨#[45]⟩]
  | 5 => [⟨#[42]⟩, ⟨#[47]⟩, ⟨#[109, 111, 100]⟩]
  | _ => []
def opL : Nat → List Int
  | 1 => [18, 19]
  | 2 => [17]
  | 3 => [11, 12, 13, 14, 15, 16]
  | 4 => [6, 7]
  | 5 => [8, 9, 10]
  | _ => []

set_option maxHeartbeats 1000000 in
theorem l1Ops_1 (w : World) : Calls Tryz.prog 86 #[.int .i64 1] w fun e w' => ∃ a b, e = .returned (.tuple #[a, b]) ∧ SlAt 1 16 RStr 0 w' a (sgL 1) ∧ SlAt 1 8 RInt 0 w' b (opL 1) ∧ Below w.heap.size w w' := by
  go_enter Tryz.func86, Tryz.ntmps86
  go_wp2
  go_ret2
  have hs : ∀ x, x ∈ sgL 1 → x.size ≤ 3 := by decide
  have ho : ∀ x, x ∈ opL 1 → 0 ≤ x ∧ x ≤ 100 := by decide
  refine ⟨_, _, rfl, flatAt Value.string 16 (sgL 1) _ w.heap.size _ ?_ ?_ ?_ (by decide) (by decide) (by decide), flatAt (Value.int .i64) 8 (opL 1) _ (w.heap.size + 1) _ ?_ ?_ ?_ (by decide) (by decide) (by decide), ((Below.refl _ _).alloc (Nat.le_refl _) _).alloc (by simp) _⟩
  · simp; omega
  · intro i hi
    rw [World.cell?_alloc_old _ _ _ (by simp), World.cell?_alloc_at _ _ _ _ rfl]
    have hc : ∀ (i : Nat) (hi : i < (sgL 1).length), ((sgL 1).map Value.string).toArray[i]? = some (.string (sgL 1)[i]) := by
      intro i hi
      simp [hi]
    exact hc i hi
  · exact fun x hx => ⟨rfl, by have := hs x hx; unfold Len; omega⟩
  · simp
  · intro i hi
    rw [World.cell?_alloc_at _ _ _ _ (by simp)]
    have hc : ∀ (i : Nat) (hi : i < (opL 1).length), ((opL 1).map (Value.int .i64)).toArray[i]? = some (.int .i64 (opL 1)[i]) := by
      intro i hi
      simp [hi]
    exact hc i hi
  · exact fun x hx => ⟨rfl, by have := ho x hx; unfold I64; omega⟩

set_option maxHeartbeats 1000000 in
theorem l1Ops_2 (w : World) : Calls Tryz.prog 86 #[.int .i64 2] w fun e w' => ∃ a b, e = .returned (.tuple #[a, b]) ∧ SlAt 1 16 RStr 0 w' a (sgL 2) ∧ SlAt 1 8 RInt 0 w' b (opL 2) ∧ Below w.heap.size w w' := by
  go_enter Tryz.func86, Tryz.ntmps86
  go_wp2
  go_ret2
  have hs : ∀ x, x ∈ sgL 2 → x.size ≤ 3 := by decide
  have ho : ∀ x, x ∈ opL 2 → 0 ≤ x ∧ x ≤ 100 := by decide
  refine ⟨_, _, rfl, flatAt Value.string 16 (sgL 2) _ w.heap.size _ ?_ ?_ ?_ (by decide) (by decide) (by decide), flatAt (Value.int .i64) 8 (opL 2) _ (w.heap.size + 1) _ ?_ ?_ ?_ (by decide) (by decide) (by decide), ((Below.refl _ _).alloc (Nat.le_refl _) _).alloc (by simp) _⟩
  · simp; omega
  · intro i hi
    rw [World.cell?_alloc_old _ _ _ (by simp), World.cell?_alloc_at _ _ _ _ rfl]
    have hc : ∀ (i : Nat) (hi : i < (sgL 2).length), ((sgL 2).map Value.string).toArray[i]? = some (.string (sgL 2)[i]) := by
      intro i hi
      simp [hi]
    exact hc i hi
  · exact fun x hx => ⟨rfl, by have := hs x hx; unfold Len; omega⟩
  · simp
  · intro i hi
    rw [World.cell?_alloc_at _ _ _ _ (by simp)]
    have hc : ∀ (i : Nat) (hi : i < (opL 2).length), ((opL 2).map (Value.int .i64)).toArray[i]? = some (.int .i64 (opL 2)[i]) := by
      intro i hi
      simp [hi]
    exact hc i hi
  · exact fun x hx => ⟨rfl, by have := ho x hx; unfold I64; omega⟩

set_option maxHeartbeats 1000000 in
theorem l1Ops_3 (w : World) : Calls Tryz.prog 86 #[.int .i64 3] w fun e w' => ∃ a b, e = .returned (.tuple #[a, b]) ∧ SlAt 1 16 RStr 0 w' a (sgL 3) ∧ SlAt 1 8 RInt 0 w' b (opL 3) ∧ Below w.heap.size w w' := by
  go_enter Tryz.func86, Tryz.ntmps86
  go_wp2
  go_ret2
  have hs : ∀ x, x ∈ sgL 3 → x.size ≤ 3 := by decide
  have ho : ∀ x, x ∈ opL 3 → 0 ≤ x ∧ x ≤ 100 := by decide
  refine ⟨_, _, rfl, flatAt Value.string 16 (sgL 3) _ w.heap.size _ ?_ ?_ ?_ (by decide) (by decide) (by decide), flatAt (Value.int .i64) 8 (opL 3) _ (w.heap.size + 1) _ ?_ ?_ ?_ (by decide) (by decide) (by decide), ((Below.refl _ _).alloc (Nat.le_refl _) _).alloc (by simp) _⟩
  · simp; omega
  · intro i hi
    rw [World.cell?_alloc_old _ _ _ (by simp), World.cell?_alloc_at _ _ _ _ rfl]
    have hc : ∀ (i : Nat) (hi : i < (sgL 3).length), ((sgL 3).map Value.string).toArray[i]? = some (.string (sgL 3)[i]) := by
      intro i hi
      simp [hi]
    exact hc i hi
  · exact fun x hx => ⟨rfl, by have := hs x hx; unfold Len; omega⟩
  · simp
  · intro i hi
    rw [World.cell?_alloc_at _ _ _ _ (by simp)]
    have hc : ∀ (i : Nat) (hi : i < (opL 3).length), ((opL 3).map (Value.int .i64)).toArray[i]? = some (.int .i64 (opL 3)[i]) := by
      intro i hi
      simp [hi]
    exact hc i hi
  · exact fun x hx => ⟨rfl, by have := ho x hx; unfold I64; omega⟩

set_option maxHeartbeats 1000000 in
theorem l1Ops_4 (w : World) : Calls Tryz.prog 86 #[.int .i64 4] w fun e w' => ∃ a b, e = .returned (.tuple #[a, b]) ∧ SlAt 1 16 RStr 0 w' a (sgL 4) ∧ SlAt 1 8 RInt 0 w' b (opL 4) ∧ Below w.heap.size w w' := by
  go_enter Tryz.func86, Tryz.ntmps86
  go_wp2
  go_ret2
  have hs : ∀ x, x ∈ sgL 4 → x.size ≤ 3 := by decide
  have ho : ∀ x, x ∈ opL 4 → 0 ≤ x ∧ x ≤ 100 := by decide
  refine ⟨_, _, rfl, flatAt Value.string 16 (sgL 4) _ w.heap.size _ ?_ ?_ ?_ (by decide) (by decide) (by decide), flatAt (Value.int .i64) 8 (opL 4) _ (w.heap.size + 1) _ ?_ ?_ ?_ (by decide) (by decide) (by decide), ((Below.refl _ _).alloc (Nat.le_refl _) _).alloc (by simp) _⟩
  · simp; omega
  · intro i hi
    rw [World.cell?_alloc_old _ _ _ (by simp), World.cell?_alloc_at _ _ _ _ rfl]
    have hc : ∀ (i : Nat) (hi : i < (sgL 4).length), ((sgL 4).map Value.string).toArray[i]? = some (.string (sgL 4)[i]) := by
      intro i hi
      simp [hi]
    exact hc i hi
  · exact fun x hx => ⟨rfl, by have := hs x hx; unfold Len; omega⟩
  · simp
  · intro i hi
    rw [World.cell?_alloc_at _ _ _ _ (by simp)]
    have hc : ∀ (i : Nat) (hi : i < (opL 4).length), ((opL 4).map (Value.int .i64)).toArray[i]? = some (.int .i64 (opL 4)[i]) := by
      intro i hi
      simp [hi]
    exact hc i hi
  · exact fun x hx => ⟨rfl, by have := ho x hx; unfold I64; omega⟩

set_option maxHeartbeats 1000000 in
theorem l1Ops_5 (w : World) : Calls Tryz.prog 86 #[.int .i64 5] w fun e w' => ∃ a b, e = .returned (.tuple #[a, b]) ∧ SlAt 1 16 RStr 0 w' a (sgL 5) ∧ SlAt 1 8 RInt 0 w' b (opL 5) ∧ Below w.heap.size w w' := by
  go_enter Tryz.func86, Tryz.ntmps86
  go_wp2
  go_ret2
  have hs : ∀ x, x ∈ sgL 5 → x.size ≤ 3 := by decide
  have ho : ∀ x, x ∈ opL 5 → 0 ≤ x ∧ x ≤ 100 := by decide
  refine ⟨_, _, rfl, flatAt Value.string 16 (sgL 5) _ w.heap.size _ ?_ ?_ ?_ (by decide) (by decide) (by decide), flatAt (Value.int .i64) 8 (opL 5) _ (w.heap.size + 1) _ ?_ ?_ ?_ (by decide) (by decide) (by decide), ((Below.refl _ _).alloc (Nat.le_refl _) _).alloc (by simp) _⟩
  · simp; omega
  · intro i hi
    rw [World.cell?_alloc_old _ _ _ (by simp), World.cell?_alloc_at _ _ _ _ rfl]
    have hc : ∀ (i : Nat) (hi : i < (sgL 5).length), ((sgL 5).map Value.string).toArray[i]? = some (.string (sgL 5)[i]) := by
      intro i hi
      simp [hi]
    exact hc i hi
  · exact fun x hx => ⟨rfl, by have := hs x hx; unfold Len; omega⟩
  · simp
  · intro i hi
    rw [World.cell?_alloc_at _ _ _ _ (by simp)]
    have hc : ∀ (i : Nat) (hi : i < (opL 5).length), ((opL 5).map (Value.int .i64)).toArray[i]? = some (.int .i64 (opL 5)[i]) := by
      intro i hi
      simp [hi]
    exact hc i hi
  · exact fun x hx => ⟨rfl, by have := ho x hx; unfold I64; omega⟩

theorem sgL_map : ∀ k : Nat, 1 ≤ k → k ≤ 5 → sgL k = (opL k).map sgT
  | 0, h, _ => by omega
  | 1, _, _ => by decide
  | 2, _, _ => by decide
  | 3, _, _ => by decide
  | 4, _, _ => by decide
  | 5, _, _ => by decide
  | _ + 6, _, h => by omega
theorem opL_len : ∀ k : Nat, (opL k).length ≤ 6
  | 0 => by decide
  | 1 => by decide
  | 2 => by decide
  | 3 => by decide
  | 4 => by decide
  | 5 => by decide
  | _ + 6 => by simp [opL]
theorem l1Ops_ok (w : World) : ∀ k : Nat, 1 ≤ k → k ≤ 5 → Calls Tryz.prog 86 #[.int .i64 (k : Int)] w fun e w' => ∃ a b, e = .returned (.tuple #[a, b]) ∧ SlAt 1 16 RStr 0 w' a ((opL k).map sgT) ∧ SlAt 1 8 RInt 0 w' b (opL k) ∧ Below w.heap.size w w'
  | 0, h, _ => by omega
  | 1, h1, h2 => by rw [← sgL_map 1 h1 h2]; exact l1Ops_1 w
  | 2, h1, h2 => by rw [← sgL_map 2 h1 h2]; exact l1Ops_2 w
  | 3, h1, h2 => by rw [← sgL_map 3 h1 h2]; exact l1Ops_3 w
  | 4, h1, h2 => by rw [← sgL_map 4 h1 h2]; exact l1Ops_4 w
  | 5, h1, h2 => by rw [← sgL_map 5 h1 h2]; exact l1Ops_5 w
  | _ + 6, _, h => by omega

theorem sg_miss (op : Int) (h : ∀ j, 1 ≤ j → j < 6 → op ∉ opL j) : sgT op = ⟨#[]⟩ := by
  have h1 := h 1 (by omega) (by omega)
  have h2 := h 2 (by omega) (by omega)
  have h3 := h 3 (by omega) (by omega)
  have h4 := h 4 (by omega) (by omega)
  have h5 := h 5 (by omega) (by omega)
  simp only [opL, List.mem_cons, List.not_mem_nil, or_false, not_or] at h1 h2 h3 h4 h5
  unfold sgT
  simp [h1, h2, h3, h4, h5]

set_option maxHeartbeats 1000000 in
theorem l1Sign_ok (op : Int) (w : World) : Calls Tryz.prog 68 #[.int .i64 op] w (Ans (.string (sgT op)) w) := by
  go_enter Tryz.func68, Tryz.ntmps68
  go_wp2
  go_loopg [3] 5 (fun gh kk wr => ∃ (k : Nat), 1 ≤ k ∧ k ≤ 6 ∧ gh = 6 - k ∧ kk = .int .i64 k ∧ Below w.heap.size w wr ∧ ∀ j, 1 ≤ j → j < k → op ∉ opL j)
  case atStart => exact ⟨1, by omega, by omega, by omega, rfl, Below.refl _ _, fun j h1 h2 => by omega⟩
  case round =>
    obtain ⟨k, hk1, hk, hg, rfl, hbl, hno⟩ := hrel
    rename World => wN
    have HG := hide hg
    have HNO := hide hno
    clear hg hno
    by_cases hlt : k ≤ 5
    · have HC := hide (l1Ops_ok wN k hk1 hlt)
      have hlen := opL_len k
      go_wp2_with fail
      refine (unhide HC).mono ?_
      rintro e w1 ⟨va, vb, rfl, hva, hvb, hb1⟩
      obtain ⟨a1, cp1, rfl, _, _, hx1⟩ := hva
      obtain ⟨a2, cp2, rfl, _, _, hx2⟩ := hvb
      have HX1 := hide hx1
      have HX2 := hide hx2
      have HB1 : Hid (Below w.heap.size w w1) := hbl.trans (hb1.mono hbl.size)
      clear hx1 hx2 hb1
      rw [List.length_map]
      go_wp2
      go_loopg [6, 18] (opL k).length (fun gh x1 i wr => ∃ (m : Nat), m ≤ (opL k).length ∧ gh = (opL k).length - m ∧ i = .int .i64 m ∧ wr = w1 ∧ ∀ j (h : j < (opL k).length), j < m → (opL k)[j] ≠ op)
      case atStart => exact ⟨0, Nat.zero_le _, by omega, rfl, rfl, fun j _ h => absurd h (Nat.not_lt_zero _)⟩
      case round =>
        obtain ⟨m, hm, hg, rfl, rfl, hne⟩ := hrel
        have HG2 := hide hg
        have HNE := hide hne
        clear hg hne
        by_cases hml : m < (opL k).length
        · obtain ⟨b2, o2, cs2, rfl, _, hb2, hcs2, hc2, hR2⟩ := unhide HX2 m hml
          obtain ⟨rfl, hi2⟩ := hR2
          have c0 := hc2 0 (by simp)
          simp only [Nat.mul_one, Nat.add_zero, List.getElem_cons_zero, List.getElem_cons_succ] at c0
          obtain ⟨b1, o1, cs1, rfl, _, hb1, hcs1, hc1, hR1⟩ := unhide HX1 m (by rw [List.length_map]; exact hml)
          obtain ⟨rfl, hi1⟩ := hR1
          have d0 := hc1 0 (by simp)
          simp only [Nat.mul_one, Nat.add_zero, List.getElem_cons_zero, List.getElem_cons_succ, List.getElem_map] at d0
          clear hc1 hc2 hcs1 hcs2
          by_cases heq : (opL k)[m] = op
          · rw [heq] at c0 d0
            go_wp2
            go_ret
            exact ⟨rfl, unhide HB1⟩
          · have HA' : Hid (∀ j (h : j < (opL k).length), j < m + 1 → (opL k)[j] ≠ op) := by
              intro j h h1
              by_cases e : j = m
              · subst e; exact heq
              · exact unhide HNE j h (by omega)
            go_wp2
            go_roundg ((opL k).length - (m + 1))
            case measure => have := unhide HG2; omega
            case rel => exact ⟨m + 1, by omega, rfl, by go_num, rfl, unhide HA'⟩
        · have HN2 : Hid (∀ j, 1 ≤ j → j < k + 1 → op ∉ opL j) := by
            intro j h1 h2
            by_cases e : j = k
            · subst e
              intro hmem
              obtain ⟨i, hi, hh⟩ := List.getElem_of_mem hmem
              exact unhide HNE i hi (by omega) hh
            · exact unhide HNO j h1 (by omega)
          go_wp2
          go_roundg (6 - (k + 1))
          case measure => have := unhide HG; omega
          case rel => exact ⟨k + 1, by omega, by omega, rfl, by go_num, unhide HB1, unhide HN2⟩
    · have HS := hide (sg_miss op (fun j h1 h2 => unhide HNO j h1 (by omega)))
      go_wp2
      go_ret
      exact ⟨ret_str (unhide HS).symm, hbl⟩

end Go.Proofs.YtmglbkndjnflkaaGreatDoor
namespace Go.Proofs.YtmglbkndjnflkaaGreatDoor
open Go.RowKit
set_option linter.unusedSimpArgs false
set_option linter.unusedVariables false

set_option maxHeartbeats 4000000 in
theorem l3Part_ok (t : DItem) (w : World) (h : PtOK t) (hn : t.name.size ≤ 1048576) :
    Calls Tryz.prog 45 #[.agg #[.int .i64 t.op, .int .i64 t.val, .string t.name]] w (Ans (.string (partT t)) w) := by
  have hA : Below w.heap.size w (w.alloc (.cells #[.int .i64 t.op, .int .i64 t.val, .string t.name] 88)) := (Below.refl _ _).alloc (Nat.le_refl _) _
  have hnum := h.num
  have HA := hide hA
  clear h hA
  obtain ⟨op, val, name⟩ := t
  simp only at *
  unfold N32 at hnum
  have HNUM := hide hnum
  clear hnum
  by_cases h1 : op = 1
  · have HP : Hid (partT ⟨op, val, name⟩ = dcT val) := by
      refine hide ?_
      unfold partT
      simp [h1]
    generalize partT ⟨op, val, name⟩ = pt at *
    subst h1
    have hv := unhide HNUM (by omega)
    have HC := hide (l1Dec_ok val hv (w.alloc (.cells #[.int .i64 1, .int .i64 val, .string name] 88)))
    have hz := dcT_sz val hv
    generalize dcT val = dv at *
    go_enter Tryz.func45, Tryz.ntmps45
    go_wp2_with fail
    refine (unhide HC).mono ?_
    rintro e w1 ⟨rfl, hb1⟩
    have HB := hide ((unhide HA).trans (hb1.mono (unhide HA).size))
    clear hb1
    go_wp2
    go_ret
    exact ⟨ret_str (unhide HP).symm, unhide HB⟩
  by_cases h2 : op = 2
  · have HP : Hid (partT ⟨op, val, name⟩ = flT val) := by
      refine hide ?_
      unfold partT
      simp [h2]
    generalize partT ⟨op, val, name⟩ = pt at *
    subst h2
    have HC := hide (l1Flag_ok val (w.alloc (.cells #[.int .i64 2, .int .i64 val, .string name] 88)))
    generalize flT val = dv at *
    go_enter Tryz.func45, Tryz.ntmps45
    go_wp2_with fail
    refine (unhide HC).mono ?_
    rintro e w1 ⟨rfl, rfl⟩
    go_wp2
    go_ret
    exact ⟨ret_str (unhide HP).symm, unhide HA⟩
  by_cases h3 : op = 3
  · have HP : Hid (partT ⟨op, val, name⟩ = Wdot ++ name) := by
      refine hide ?_
      unfold partT
      simp [h3]
    generalize partT ⟨op, val, name⟩ = pt at *
    subst h3
    go_enter Tryz.func45, Tryz.ntmps45
    go_wp2
    go_ret
    exact ⟨ret_str (unhide HP).symm, unhide HA⟩
  by_cases h25 : op = 25
  · have HP : Hid (partT ⟨op, val, name⟩ = Wat ++ dcT val) := by
      refine hide ?_
      unfold partT
      simp [h25]
    generalize partT ⟨op, val, name⟩ = pt at *
    subst h25
    have hv := unhide HNUM (by omega)
    have HC := hide (l1Dec_ok val hv (w.alloc (.cells #[.int .i64 25, .int .i64 val, .string name] 88)))
    have hz := dcT_sz val hv
    generalize dcT val = dv at *
    go_enter Tryz.func45, Tryz.ntmps45
    go_wp2_with fail
    refine (unhide HC).mono ?_
    rintro e w1 ⟨rfl, hb1⟩
    have HB := hide ((unhide HA).trans (hb1.mono (unhide HA).size))
    clear hb1
    go_wp2
    go_ret
    exact ⟨ret_str (unhide HP).symm, unhide HB⟩
  by_cases h4 : op = 4
  · have HP : Hid (partT ⟨op, val, name⟩ = Wneg) := by
      refine hide ?_
      unfold partT
      simp [h4]
    generalize partT ⟨op, val, name⟩ = pt at *
    subst h4
    go_enter Tryz.func45, Tryz.ntmps45
    go_wp2
    go_ret
    exact ⟨ret_str (unhide HP).symm, unhide HA⟩
  by_cases h5 : op = 5
  · have HP : Hid (partT ⟨op, val, name⟩ = Wnot) := by
      refine hide ?_
      unfold partT
      simp [h5]
    generalize partT ⟨op, val, name⟩ = pt at *
    subst h5
    go_enter Tryz.func45, Tryz.ntmps45
    go_wp2
    go_ret
    exact ⟨ret_str (unhide HP).symm, unhide HA⟩
  by_cases h20 : op = 20
  · have HP : Hid (partT ⟨op, val, name⟩ = Wq) := by
      refine hide ?_
      unfold partT
      simp [h20]
    generalize partT ⟨op, val, name⟩ = pt at *
    subst h20
    go_enter Tryz.func45, Tryz.ntmps45
    go_wp2
    go_ret
    exact ⟨ret_str (unhide HP).symm, unhide HA⟩
  have HP : Hid (partT ⟨op, val, name⟩ = sgT op) := by
    refine hide ?_
    unfold partT
    simp [h1, h2, h3, h25, h4, h5, h20]
  have HC := hide (l1Sign_ok op (w.alloc (.cells #[.int .i64 op, .int .i64 val, .string name] 88)))
  generalize partT ⟨op, val, name⟩ = pt at *
  generalize sgT op = sg at *
  go_enter Tryz.func45, Tryz.ntmps45
  go_wp2_with fail
  refine (unhide HC).mono ?_
  rintro e w1 ⟨rfl, hb1⟩
  have HB := hide ((unhide HA).trans (hb1.mono (unhide HA).size))
  clear hb1
  go_wp2
  go_ret
  exact ⟨ret_str (unhide HP).symm, unhide HB⟩

theorem l3Type_ok (t : Int) (w : World) : Calls Tryz.prog 11 #[.int .i64 t] w fun e w' => e = .returned (.string (tyT t)) ∧ w' = w := by
  go_enter Tryz.func11, Tryz.ntmps11
  go_wp2
  all_goals
    go_ret
    refine ⟨ret_str ?_, rfl⟩
    simp_all [tyT, Wint, Wbool]

structure CdOK (c : List DItem) : Prop where
  pt : ∀ t, t ∈ c → PtOK t
  nm : ∀ t, t ∈ c → t.name.size ≤ 1048576
  len : c.length ≤ 6000
  sz : wSum wItem c ≤ 1048576
theorem codeP_small {c : List DItem} (h : CdOK c) : ∀ x, x ∈ codeP c → x.size ≤ 2000000 := fun x hx => by
  unfold codeP at hx
  obtain ⟨t, ht, rfl⟩ := List.mem_map.1 hx
  have h1 := partT_sz t (h.pt t ht)
  have h2 := h.nm t ht
  omega
theorem codeP_take (c : List DItem) (q : Nat) (hq : q < c.length) : codeP (c.take (q + 1)) = codeP (c.take q) ++ [partT c[q]] := by
  unfold codeP
  rw [List.take_succ_eq_append_getElem hq, List.map_append]
  rfl
theorem codeP_len (c : List DItem) : (codeP c).length = c.length := by simp [codeP]

set_option maxHeartbeats 2000000 in
theorem l3Code_ok (c : List DItem) (v : Value) (w : World) (hv : SlAt 3 32 RItem 0 w v c) (hc : CdOK c) :
    Calls Tryz.prog 23 #[v] w (Ans (.string (codeT c)) w) := by
  have HCO := hide hc
  have hl := hc.len
  have HV := hide hv
  obtain ⟨a, cap, rfl, _, _, hx⟩ := hv
  have HX := hide hx
  have HO := hide (OwnV.start (E := elStr) w w.heap.size (Nat.le_refl _))
  have HB0 := hide ((Below.refl w.heap.size w).alloc (Nat.le_refl _) (.cells #[] 9))
  have HCT : Hid (jnT Lsp (codeP c) = codeT c) := rfl
  generalize codeT c = ct at *
  clear hx hc
  go_enter Tryz.func23, Tryz.ntmps23
  go_wp2
  go_loopg [3, 9] c.length (fun gh st ix wr => ∃ (q : Nat) (sv : Value), q ≤ c.length ∧ gh = c.length - q ∧ ix = .int .i64 q ∧ st = sv ∧ Hid (OwnV elStr wr w.heap.size sv (codeP (c.take q))) ∧ Hid (Below w.heap.size w wr))
  case atStart => exact ⟨0, _, Nat.zero_le _, by omega, rfl, rfl, HO, HB0⟩
  case round =>
    obtain ⟨q, _, hq, hg, rfl, rfl, HOW, HBW⟩ := hrel
    have HG := hide hg
    clear hg
    have hws := (unhide HBW).size
    by_cases hlt : q < c.length
    · obtain ⟨b, o, cs, rfl, _, hb, hcs, hc, hR⟩ := unhide HX q hlt
      have hc : ∀ j (hj : j < cs.length), wr.cell? ⟨b, o + q * 3 + j, none⟩ = some cs[j] := fun j hj => by rw [(unhide HBW).cell (p := ⟨b, _, none⟩) hb]; exact hc j hj
      obtain ⟨rfl, hsn, ho, hv⟩ := hR
      have c0 := hc 0 (by simp)
      have c1 := hc 1 (by simp)
      have c2 := hc 2 (by simp)
      simp only [Nat.mul_one, Nat.add_zero, List.getElem_cons_zero, List.getElem_cons_succ] at c0 c1 c2
      have hltI : (q : Int) < (c.length : Int) := by omega
      have HC := hide (l3Part_ok c[q] (wr.alloc (.cells #[.int .i64 c[q].op, .int .i64 c[q].val, .string c[q].name] 88)) ((unhide HCO).pt _ (List.getElem_mem hlt)) ((unhide HCO).nm _ (List.getElem_mem hlt)))
      have HT := hide (codeP_take c q hlt)
      have HLN : Hid ((codeP (c.take q)).length = q) := by
        refine hide ?_
        rw [codeP_len, List.length_take]
        omega
      have P1 := hide ((Below.refl wr.heap.size wr).alloc (Nat.le_refl _) (.cells #[.int .i64 c[q].op, .int .i64 c[q].val, .string c[q].name] 88))
      clear hc hcs hsn ho hv
      generalize partT c[q] = pt at *
      generalize c[q] = it at *
      obtain ⟨op, val, name⟩ := it
      simp only at *
      generalize codeP (c.take q) = pre at *
      go_wp2_with fail
      refine (unhide HC).mono ?_
      rintro e w1 ⟨rfl, hb1⟩
      have Q1 : Hid (Below wr.heap.size wr w1) := (unhide P1).trans (hb1.mono (unhide P1).size)
      have Q2 : Hid (Below wr.heap.size wr (w1.alloc (.cells #[.string pt] 9))) := (unhide Q1).alloc (unhide Q1).size _
      have HO1 := hide ((unhide HOW).below (unhide Q2))
      have HB1 := hide ((unhide HBW).trans ((unhide Q2).mono hws))
      have hs1 := (unhide Q1).size
      clear hb1
      go_wp2_with (at_builtin; go_must (refine wpList_append_oneF elStr _ rfl _ _ rfl w.heap.size _ pre rfl (unhide HO1) w1.heap.size pt rfl (fun j u hu => by rw [World.cell?_alloc_at _ _ _ _ rfl]; simpa [elStr] using hu) (by have := unhide HLN; simp [elStr]; omega) (by simp; omega) ?_))
      intro v2 w2 hown2 hgr2
      have HB2 := hide ((unhide HO1).grown (unhide HB1) hgr2 (by simp; omega) (Nat.le_refl _))
      rw [← unhide HT] at hown2
      have HO2 := hide hown2
      clear hown2 hgr2
      go_wp2
      go_roundg (c.length - (q + 1))
      case measure => have := unhide HG; omega
      case rel => exact ⟨q + 1, v2, by omega, rfl, by go_num, rfl, HO2, HB2⟩
    · have e : q = c.length := by omega
      have HS : Hid (SlAt 1 16 RStr 0 wr u3 (codeP c)) := by
        refine hide ?_
        have h8 := unhide HOW
        rw [e, List.take_length] at h8
        exact h8.at (R := RStr) (fun x hx => ⟨rfl, by have := codeP_small (unhide HCO) x hx; unfold Len; omega⟩) (by rw [codeP_len]; simp [elStr]; omega)
      have HJ := hide (l1Join_ok Lsp (codeP c) u3 wr (unhide HS) (by decide) (fun x hx => by have := codeP_small (unhide HCO) x hx; omega) (by rw [codeP_len]; omega))
      rw [unhide HCT] at HJ
      clear e
      go_wp2_with fail
      refine (unhide HJ).mono ?_
      rintro e w1 ⟨rfl, rfl⟩
      go_wp2
      go_ret
      exact ⟨rfl, unhide HBW⟩

end Go.Proofs.YtmglbkndjnflkaaGreatDoor
namespace Go.Proofs.YtmglbkndjnflkaaGreatDoor
open Go.RowKit
set_option linter.unusedSimpArgs false
set_option linter.unusedVariables false

theorem box_thruP {w w' w1 : World} {o : Obj} (h : Below (w.heap.size + 1) (w.alloc o) w') (hb : Below w'.heap.size w' w1) : Below (w.heap.size + 1) (w.alloc o) w1 := by
  have := h.size
  simp at this
  exact h.trans (hb.mono this)
structure LnOK (s : DStm) : Prop where
  st : StOK s
  nm : s.name.size ≤ 1048576
  outs : s.outs.length ≤ 1000 ∧ ∀ x, x ∈ s.outs → x.size ≤ 1048576
  code : CdOK s.code
  args : s.args.length ≤ 1000 ∧ ∀ c, c ∈ s.args → CdOK c
theorem codeT_small {c : List DItem} (h : CdOK c) : (codeT c).size ≤ 21000000 := by
  have h1 := codeT_sz c h.pt
  have h2 := h.sz
  omega
theorem outsJ_small {xs : List ByteArray} (hl : xs.length ≤ 1000) (h : ∀ x, x ∈ xs → x.size ≤ 1048576) : (jnT Lsp xs).size ≤ 1100000000 := by
  have h1 := jnT_size Lsp xs 1048576 h
  have h2 : Lsp.size * xs.length ≤ 1 * 1000 := Nat.mul_le_mul (by decide) hl
  have h3 : 1048576 * xs.length ≤ 1048576 * 1000 := Nat.mul_le_mul_left _ hl
  omega
theorem argsJ_small {ags : List (List DItem)} (hl : ags.length ≤ 1000) (h : ∀ c, c ∈ ags → CdOK c) : (jnT Wsc (ags.map codeT)).size ≤ 22000000000 := by
  have h1 := jnT_size Wsc (ags.map codeT) 21000000 (fun x hx => by obtain ⟨c, hc, rfl⟩ := List.mem_map.1 hx; exact codeT_small (h c hc))
  rw [List.length_map] at h1
  have h2 : Wsc.size * ags.length ≤ 3 * 1000 := Nat.mul_le_mul (by decide) hl
  have h3 : 21000000 * ags.length ≤ 21000000 * 1000 := Nat.mul_le_mul_left _ hl
  omega
theorem lit_set : (⟨#[115, 101, 116, 32]⟩ : ByteArray) = Wset ++ Lsp := by decide
theorem lit_save : (⟨#[115, 97, 118, 101, 32]⟩ : ByteArray) = Wsave ++ Lsp := by decide
theorem lit_col : (⟨#[32, 58, 32]⟩ : ByteArray) = Lsp ++ (Wcol ++ Lsp) := by decide
theorem lit_col2 : (⟨#[32, 58]⟩ : ByteArray) = Lsp ++ Wcol := by decide
theorem lit_if : (⟨#[105, 102, 32]⟩ : ByteArray) = Wif ++ Lsp := by decide
theorem lit_call : (⟨#[99, 97, 108, 108, 32]⟩ : ByteArray) = Wcall ++ Lsp := by decide

set_option maxRecDepth 20000 in
set_option maxHeartbeats 8000000 in
theorem l3Line_ok (s : DStm) (so sc sa : Value) (w : World) (h : LnOK s) (h1 : SlAt 1 16 RStr 0 w so s.outs) (h2 : SlAt 3 32 RItem 0 w sc s.code) (h3 : SlAt 1 24 RItems 0 w sa s.args) :
    Calls Tryz.prog 13 #[.agg #[.int .i64 s.kind, .string s.name, .int .i64 s.at_, so, sc, sa]] w (Ans (.string (lnP (stmP s))) w) := by
  obtain ⟨kd, nm, at0, outs, code, args⟩ := s
  simp only at h1 h2 h3
  obtain ⟨oa, oc, rfl⟩ := h1.shape
  obtain ⟨ca, cc, rfl⟩ := h2.shape
  obtain ⟨aa, ac, rfl⟩ := h3.shape
  have hat := h.st.at_
  have hkd := h.st.kind
  have hnm := h.nm
  have hol := h.outs
  have hcd := h.code
  have hal := h.args
  have hcne := h.st.cne
  have hone := h.st.one
  simp only at hat hkd hnm hol hcd hal hcne hone
  unfold N32 at hat
  have HLC := hide (line_call ⟨kd, nm, at0, outs, code, args⟩)
  have HLS := hide (line_set ⟨kd, nm, at0, outs, code, args⟩)
  have HLV := hide (line_save ⟨kd, nm, at0, outs, code, args⟩)
  have HLI := hide (line_if ⟨kd, nm, at0, outs, code, args⟩)
  have HLE := hide (line_else ⟨kd, nm, at0, outs, code, args⟩)
  have HLN := hide (line_end ⟨kd, nm, at0, outs, code, args⟩)
  simp only at HLC HLS HLV HLI
  generalize lnP (stmP ⟨kd, nm, at0, outs, code, args⟩) = ln at *
  have hz1 := codeT_small hcd
  have hz2 := outsJ_small hol.1 hol.2
  have hz3 := argsJ_small hal.1 hal.2
  have hz4 := dcT_sz at0 hat
  have HB0 : Hid (Below (w.heap.size + 1) (w.alloc (.cells #[.int .i64 kd, .string nm, .int .i64 at0, .slice oa outs.length oc, .slice ca code.length cc, .slice aa args.length ac] 47)) (w.alloc (.cells #[.int .i64 kd, .string nm, .int .i64 at0, .slice oa outs.length oc, .slice ca code.length cc, .slice aa args.length ac] 47))) := Below.refl _ _
  have HB0d : Hid (Below (w.heap.size + 1) (w.alloc (.cells #[.int .i64 kd, .string nm, .int .i64 at0, .slice oa outs.length oc, .slice ca code.length cc, .slice aa args.length ac] 47)) (w.alloc (.cells #[.int .i64 kd, .string nm, .int .i64 at0, .slice oa outs.length oc, .slice ca code.length cc, .slice aa args.length ac] 47)).drew) := (unhide HB0).drew
  have HOUT : Hid (∀ w1, Below (w.heap.size + 1) (w.alloc (.cells #[.int .i64 kd, .string nm, .int .i64 at0, .slice oa outs.length oc, .slice ca code.length cc, .slice aa args.length ac] 47)) w1 → Below w.heap.size w w1) := fun w1 h => ((Below.refl w.heap.size w).alloc (Nat.le_refl _) _).trans (h.mono (Nat.le_succ _))
  have HCD : Hid (∀ w', Hid (Below (w.heap.size + 1) (w.alloc (.cells #[.int .i64 kd, .string nm, .int .i64 at0, .slice oa outs.length oc, .slice ca code.length cc, .slice aa args.length ac] 47)) w') → Calls Tryz.prog 23 #[.slice ca code.length cc] w' fun e w1 => e = .returned (.string (codeT code)) ∧ Hid (Below (w.heap.size + 1) (w.alloc (.cells #[.int .i64 kd, .string nm, .int .i64 at0, .slice oa outs.length oc, .slice ca code.length cc, .slice aa args.length ac] 47)) w1) ∧ w1.cell? ⟨w.heap.size, 1, none⟩ = some (.string nm) ∧ w1.cell? ⟨w.heap.size, 2, none⟩ = some (.int .i64 at0) ∧ w1.cell? ⟨w.heap.size, 3, none⟩ = some (.slice oa outs.length oc) ∧ w1.cell? ⟨w.heap.size, 4, none⟩ = some (.slice ca code.length cc)) := fun w' hw => (l3Code_ok code _ w' (h2.stays RItem_kept (unhide HOUT _ (unhide hw))) hcd).mono (fun e w1 ⟨he, hb⟩ => by
    have H9 := box_thruP (unhide hw) hb
    exact ⟨he, H9, (box_cell (B := 0) H9 1).trans rfl, (box_cell (B := 0) H9 2).trans rfl, (box_cell (B := 0) H9 3).trans rfl, (box_cell (B := 0) H9 4).trans rfl⟩)
  have HDC : Hid (∀ w', Hid (Below (w.heap.size + 1) (w.alloc (.cells #[.int .i64 kd, .string nm, .int .i64 at0, .slice oa outs.length oc, .slice ca code.length cc, .slice aa args.length ac] 47)) w') → Calls Tryz.prog 12 #[.int .i64 at0] w' fun e w1 => e = .returned (.string (dcT at0)) ∧ Hid (Below (w.heap.size + 1) (w.alloc (.cells #[.int .i64 kd, .string nm, .int .i64 at0, .slice oa outs.length oc, .slice ca code.length cc, .slice aa args.length ac] 47)) w1) ∧ w1.cell? ⟨w.heap.size, 1, none⟩ = some (.string nm) ∧ w1.cell? ⟨w.heap.size, 2, none⟩ = some (.int .i64 at0) ∧ w1.cell? ⟨w.heap.size, 3, none⟩ = some (.slice oa outs.length oc) ∧ w1.cell? ⟨w.heap.size, 4, none⟩ = some (.slice ca code.length cc)) := fun w' hw => (l1Dec_ok at0 hat w').mono (fun e w1 ⟨he, hb⟩ => by
    have H9 := box_thruP (unhide hw) hb
    exact ⟨he, H9, (box_cell (B := 0) H9 1).trans rfl, (box_cell (B := 0) H9 2).trans rfl, (box_cell (B := 0) H9 3).trans rfl, (box_cell (B := 0) H9 4).trans rfl⟩)
  have HDG : Hid (∀ w', Calls Tryz.prog 12 #[.int .i64 at0] w' (Ans (.string (dcT at0)) w')) := fun w' => l1Dec_ok at0 hat w'
  have HJN : Hid (∀ w', Hid (Below (w.heap.size + 1) (w.alloc (.cells #[.int .i64 kd, .string nm, .int .i64 at0, .slice oa outs.length oc, .slice ca code.length cc, .slice aa args.length ac] 47)) w') → Calls Tryz.prog 24 #[.slice oa outs.length oc, .string ⟨#[32]⟩] w' fun e w1 => e = .returned (.string (jnT Lsp outs)) ∧ w1 = w') := fun w' hw => l1Join_ok Lsp outs _ w' (h1.stays RStr_kept (unhide HOUT _ (unhide hw))) (by decide) (fun x hx => by have := hol.2 x hx; omega) (by omega)
  have H3 := hide h3
  have HAL := hide hal
  have hal1 := hal.1
  clear h h1 h2 h3 hcd hol hal
  by_cases e1 : kd = 1
  · have HF := hide (unhide HLS e1 (hcne (by omega)))
    have HF2 : Hid (ln = ⟨#[115, 101, 116, 32]⟩ ++ nm ++ ⟨#[32, 58, 32]⟩ ++ codeT code) := by
      refine hide ?_
      rw [unhide HF, lit_set, lit_col]
      simp only [ba_assoc]
    clear HF HLC HLS HLV HLI HLE HLN HJN HDG H3 HAL hcne hone
    generalize codeT code = ct at *
    generalize dcT at0 = dv at *
    have q1 : ¬ (9223372036854775807 < 4 + nm.size) := by omega
    have q2 : ¬ (9223372036854775807 < 4 + nm.size + 3) := by omega
    have q3 : ¬ (9223372036854775807 < 4 + nm.size + 3 + ct.size) := by omega
    subst e1
    go_enter Tryz.func13, Tryz.ntmps13
    go_wp2_with fail
    go_region_held3 (fun w' => w'.cell? ⟨w.heap.size, 1, none⟩ = some (.string nm) ∧ w'.cell? ⟨w.heap.size, 4, none⟩ = some (.slice ca code.length cc)) (go_keep) (first | (go_at_call 23; refine (unhide HCD _ (by first | exact HBn | exact HB0d)).mono ?_; rintro e wn ⟨rfl, HBn, k1, k2, k3, k4⟩) | (go_at_call 12; refine (unhide HDC _ (by first | exact HBn | exact HB0d)).mono ?_; rintro e wn ⟨rfl, HBn, k1, k2, k3, k4⟩))
    all_goals
      go_wp2
      go_ret
      exact ⟨ret_str (unhide HF2).symm, unhide HOUT _ (unhide HBn)⟩
  by_cases e2 : kd = 2
  · have HF := hide (unhide HLV e2 (hcne (by omega)))
    have HF2 : Hid (ln = ⟨#[115, 97, 118, 101, 32]⟩ ++ dcT at0 ++ ⟨#[32, 58, 32]⟩ ++ codeT code) := by
      refine hide ?_
      rw [unhide HF, lit_save, lit_col]
      simp only [ba_assoc]
    clear HF HLC HLS HLV HLI HLE HLN HJN HDG H3 HAL hcne hone
    generalize codeT code = ct at *
    generalize dcT at0 = dv at *
    have q1 : ¬ (9223372036854775807 < 5 + dv.size) := by omega
    have q2 : ¬ (9223372036854775807 < 5 + dv.size + 3) := by omega
    have q3 : ¬ (9223372036854775807 < 5 + dv.size + 3 + ct.size) := by omega
    subst e2
    go_enter Tryz.func13, Tryz.ntmps13
    go_wp2_with fail
    go_region_held3 (fun w' => w'.cell? ⟨w.heap.size, 2, none⟩ = some (.int .i64 at0) ∧ w'.cell? ⟨w.heap.size, 4, none⟩ = some (.slice ca code.length cc)) (go_keep) (first | (go_at_call 23; refine (unhide HCD _ (by first | exact HBn | exact HB0d)).mono ?_; rintro e wn ⟨rfl, HBn, k1, k2, k3, k4⟩) | (go_at_call 12; refine (unhide HDC _ (by first | exact HBn | exact HB0d)).mono ?_; rintro e wn ⟨rfl, HBn, k1, k2, k3, k4⟩))
    all_goals
      go_wp2
      go_ret
      exact ⟨ret_str (unhide HF2).symm, unhide HOUT _ (unhide HBn)⟩
  by_cases e4 : kd = 4
  · have HF := hide (unhide HLI e4)
    have HF2 : Hid (ln = ⟨#[105, 102, 32]⟩ ++ nm) := by
      refine hide ?_
      rw [unhide HF, lit_if]
      simp only [ba_assoc]
    clear HF HLC HLS HLV HLI HLE HLN HJN HCD HDC HDG H3 HAL hcne hone
    subst e4
    go_enter Tryz.func13, Tryz.ntmps13
    go_wp2
    go_ret
    exact ⟨ret_str (unhide HF2).symm, unhide HOUT _ (unhide HB0)⟩
  by_cases e5 : kd = 5
  · have HF := hide (unhide HLE e5)
    clear HLC HLS HLV HLI HLE HLN HJN HCD HDC HDG H3 HAL hcne hone
    subst e5
    go_enter Tryz.func13, Tryz.ntmps13
    go_wp2
    go_ret
    exact ⟨ret_str (unhide HF).symm, unhide HOUT _ (unhide HB0)⟩
  by_cases e6 : kd = 6
  · have HF := hide (unhide HLN e6)
    clear HLC HLS HLV HLI HLE HLN HJN HCD HDC HDG H3 HAL hcne hone
    subst e6
    go_enter Tryz.func13, Tryz.ntmps13
    go_wp2
    go_ret
    exact ⟨ret_str (unhide HF).symm, unhide HOUT _ (unhide HB0)⟩
  have e3 : kd = 3 := by omega
  have HF := hide (unhide HLC e3 (hone e3).1 (hone e3).2)
  have HF2 : Hid (ln = (⟨#[99, 97, 108, 108, 32]⟩ ++ dcT at0 ++ ⟨#[32]⟩ ++ jnT Lsp outs ++ ⟨#[32, 58]⟩) ++ (if args.length = 0 then ByteArray.empty else ⟨#[32]⟩ ++ jnT Wsc (args.map codeT))) := by
    refine hide ?_
    rw [unhide HF, lit_call, lit_col2]
    simp only [ba_assoc]
    rfl
  clear HF HLC HLS HLV HLI HLE HLN HCD HDC hcne hone hkd e1 e2 e4 e5 e6
  have HO : Hid (OwnV elStr ((w.alloc (.cells #[.int .i64 kd, .string nm, .int .i64 at0, .slice oa outs.length oc, .slice ca code.length cc, .slice aa args.length ac] 47)).alloc (.cells #[] 9)) (w.heap.size + 1) (.slice (some ⟨w.heap.size + 1, 0, none⟩) 0 0) []) := by
    have h9 := OwnV.start (E := elStr) (w.alloc (.cells #[.int .i64 kd, .string nm, .int .i64 at0, .slice oa outs.length oc, .slice ca code.length cc, .slice aa args.length ac] 47)) (w.heap.size + 1) (by simp)
    rw [World.size_alloc] at h9
    exact hide h9
  have HB1 : Hid (Below (w.heap.size + 1) (w.alloc (.cells #[.int .i64 kd, .string nm, .int .i64 at0, .slice oa outs.length oc, .slice ca code.length cc, .slice aa args.length ac] 47)) ((w.alloc (.cells #[.int .i64 kd, .string nm, .int .i64 at0, .slice oa outs.length oc, .slice ca code.length cc, .slice aa args.length ac] 47)).alloc (.cells #[] 9))) := (unhide HB0).alloc (by simp) _
  generalize dcT at0 = dv at *
  generalize jnT Lsp outs = jo at *
  subst e3
  go_enter Tryz.func13, Tryz.ntmps13
  go_wp2
  go_loopg [3, 43] args.length (fun gh st ix wr => ∃ (q : Nat) (sv : Value), q ≤ args.length ∧ gh = args.length - q ∧ ix = .int .i64 q ∧ st = sv ∧ Hid (OwnV elStr wr (w.heap.size + 1) sv ((args.take q).map codeT)) ∧ Hid (Below (w.heap.size + 1) (w.alloc (.cells #[.int .i64 3, .string nm, .int .i64 at0, .slice oa outs.length oc, .slice ca code.length cc, .slice aa args.length ac] 47)) wr))
  case atStart => exact ⟨0, _, Nat.zero_le _, by omega, rfl, rfl, HO, HB1⟩
  case round =>
    obtain ⟨q, _, hq, hg, rfl, rfl, HOW, HBW⟩ := hrel
    have HG := hide hg
    clear hg
    have hws : w.heap.size + 1 ≤ wr.heap.size := by have := (unhide HBW).size; simpa using this
    by_cases hlt : q < args.length
    · obtain ⟨_, _, hve, _, _, hex⟩ := unhide H3
      simp only [Value.slice.injEq] at hve
      obtain ⟨rfl, _, rfl⟩ := hve
      obtain ⟨b, o, cs, rfl, _, hb, hcs, hc, ⟨vq, rfl, hvq⟩⟩ := hex q hlt
      have hbw := unhide HOUT _ (unhide HBW)
      have z0 : wr.cell? ⟨b, o + q, none⟩ = some vq := by
        have h0 := hc 0 (by simp)
        rw [Nat.mul_one, Nat.add_zero] at h0
        rw [hbw.cell (p := ⟨b, _, none⟩) hb]
        exact h0
      have HC := hide (l3Code_ok args[q] vq wr (hvq.stays RItem_kept hbw) ((unhide HAL).2 _ (List.getElem_mem hlt)))
      have HT : Hid ((args.take (q + 1)).map codeT = (args.take q).map codeT ++ [codeT args[q]]) := by
        refine hide ?_
        rw [List.take_succ_eq_append_getElem hlt, List.map_append]
        rfl
      have HLN : Hid (((args.take q).map codeT).length = q) := by
        refine hide ?_
        rw [List.length_map, List.length_take]
        omega
      have hltI : (q : Int) < (args.length : Int) := by omega
      clear hc hcs hvq hbw hex
      generalize codeT args[q] = pt at *
      generalize (args.take q).map codeT = pre at *
      go_wp2_with fail
      refine (unhide HC).mono ?_
      rintro e w1 ⟨rfl, hb1⟩
      have Q2 : Hid (Below wr.heap.size wr (w1.alloc (.cells #[.string pt] 9))) := hb1.alloc hb1.size _
      have HO1 := hide ((unhide HOW).below (unhide Q2))
      have HB2 := hide ((unhide HBW).trans ((unhide Q2).mono hws))
      have hs1 := hb1.size
      clear hb1
      go_wp2_with (at_builtin; go_must (refine wpList_append_oneF elStr _ rfl _ _ rfl (w.heap.size + 1) _ pre rfl (unhide HO1) w1.heap.size pt rfl (fun j u hu => by rw [World.cell?_alloc_at _ _ _ _ rfl]; simpa [elStr] using hu) (by have := unhide HLN; simp [elStr]; omega) (by simp; omega) ?_))
      intro v2 w2 hown2 hgr2
      have HB3 := hide ((unhide HO1).grown (unhide HB2) hgr2 (by simp; omega) (Nat.le_refl _))
      rw [← unhide HT] at hown2
      have HO2 := hide hown2
      clear hown2 hgr2
      go_wp2
      go_roundg (args.length - (q + 1))
      case measure => have := unhide HG; omega
      case rel => exact ⟨q + 1, v2, by omega, rfl, by go_num, rfl, HO2, HB3⟩
    · have e : q = args.length := by omega
      have HOE : Hid (OwnV elStr wr (w.heap.size + 1) u3 (args.map codeT)) := by
        refine hide ?_
        have h8 := unhide HOW
        rw [e, List.take_length] at h8
        exact h8
      have HBd : Hid (Below (w.heap.size + 1) (w.alloc (.cells #[.int .i64 3, .string nm, .int .i64 at0, .slice oa outs.length oc, .slice ca code.length cc, .slice aa args.length ac] 47)) wr.drew) := (unhide HBW).drew
      have k2 : wr.cell? ⟨w.heap.size, 2, none⟩ = some (.int .i64 at0) := (box_cell (B := 0) (unhide HBW) 2).trans rfl
      have k3 : wr.cell? ⟨w.heap.size, 3, none⟩ = some (.slice oa outs.length oc) := (box_cell (B := 0) (unhide HBW) 3).trans rfl
      obtain ⟨sva, svc, hsv⟩ := (unhide HOE).slice
      rw [List.length_map] at hsv
      have HRows : Hid (∀ w', Below wr.heap.size wr w' → SlAt 1 16 RStr 0 w' u3 (args.map codeT)) := fun w' hb => (((unhide HOE).below hb).at (R := RStr) (fun x hx => ⟨rfl, by
        obtain ⟨c, hc, rfl⟩ := List.mem_map.1 hx
        have := codeT_small ((unhide HAL).2 c hc)
        unfold Len
        omega⟩) (by rw [List.length_map]; simp [elStr]; omega))
      have HJA : Hid (∀ w', Below wr.heap.size wr w' → Calls Tryz.prog 24 #[u3, .string ⟨#[32, 44, 32]⟩] w' fun e w1 => e = .returned (.string (jnT Wsc (args.map codeT))) ∧ w1 = w') := fun w' hb => l1Join_ok Wsc _ u3 w' (unhide HRows w' hb) (by decide) (fun x hx => by
        obtain ⟨c, hc, rfl⟩ := List.mem_map.1 hx
        have := codeT_small ((unhide HAL).2 c hc)
        omega) (by rw [List.length_map]; omega)
      have HDC2 : Hid (∀ w', Hid (Below wr.heap.size wr w') → Calls Tryz.prog 12 #[.int .i64 at0] w' fun e w1 => e = .returned (.string dv) ∧ Hid (Below wr.heap.size wr w1) ∧ w1.cell? ⟨w.heap.size, 2, none⟩ = some (.int .i64 at0) ∧ w1.cell? ⟨w.heap.size, 3, none⟩ = some (.slice oa outs.length oc)) := fun w' hw => (unhide HDG w').mono (fun e w1 ⟨he, hb⟩ => by
        have h9 := (unhide hw).trans (hb.mono (unhide hw).size)
        exact ⟨he, h9, (h9.cell (p := ⟨w.heap.size, 2, none⟩) (show w.heap.size < _ by omega)).trans k2, (h9.cell (p := ⟨w.heap.size, 3, none⟩) (show w.heap.size < _ by omega)).trans k3⟩)
      have HJN2 : Hid (∀ w', Hid (Below wr.heap.size wr w') → Calls Tryz.prog 24 #[.slice oa outs.length oc, .string ⟨#[32]⟩] w' fun e w1 => e = .returned (.string jo) ∧ w1 = w') := fun w' hw => unhide HJN w' (hide ((unhide HBW).trans ((unhide hw).mono hws)))
      have HBr : Hid (Below wr.heap.size wr wr.drew) := (Below.refl _ _).drew
      have HFIN : Hid (∀ w', Below wr.heap.size wr w' → Below w.heap.size w w') := fun w' hb => unhide HOUT _ ((unhide HBW).trans (hb.mono hws))
      subst hsv
      clear e HRows HOE HOW HJN HDG HBd HB0 HB0d HB1 HO H3
      by_cases e0 : args.length = 0
      · have HF3 : Hid (ln = ⟨#[99, 97, 108, 108, 32]⟩ ++ dv ++ ⟨#[32]⟩ ++ jo ++ ⟨#[32, 58]⟩) := by
          refine hide ?_
          rw [unhide HF2, if_pos e0, ba_nil]
        have eI : decide (0 < (args.length : Int)) = false := decide_eq_false (by omega)
        have eN : decide (0 < args.length) = false := decide_eq_false (by omega)
        clear HF2 HJA e0
        generalize args.length = na at *
        have q1 : ¬ (9223372036854775807 < 5 + dv.size) := by omega
        have q2 : ¬ (9223372036854775807 < 5 + dv.size + 1) := by omega
        have q3 : ¬ (9223372036854775807 < 5 + dv.size + 1 + jo.size) := by omega
        have q4 : ¬ (9223372036854775807 < 5 + dv.size + 1 + jo.size + 2) := by omega
        go_wp2_with fail
        go_region_held3 (fun w' => w'.cell? ⟨w.heap.size, 2, none⟩ = some (.int .i64 at0) ∧ w'.cell? ⟨w.heap.size, 3, none⟩ = some (.slice oa outs.length oc)) (go_keep) (first | (go_at_call 12; refine (unhide HDC2 _ HBr).mono ?_; rintro e wn ⟨rfl, HBn, k2', k3'⟩) | (go_at_call 24; refine (unhide HJN2 _ (by first | exact HBn | exact HBr)).mono ?_; rintro e wj ⟨rfl, rfl⟩))
        all_goals
          go_wp2
          go_ret
          exact ⟨ret_str (unhide HF3).symm, unhide HFIN _ (unhide HBn)⟩
      · have HF3 : Hid (ln = (⟨#[99, 97, 108, 108, 32]⟩ ++ dv ++ ⟨#[32]⟩ ++ jo ++ ⟨#[32, 58]⟩) ++ (⟨#[32]⟩ ++ jnT Wsc (args.map codeT))) := by
          refine hide ?_
          rw [unhide HF2, if_neg e0]
        have eI : decide (0 < (args.length : Int)) = true := decide_eq_true (by omega)
        have eN : decide (0 < args.length) = true := decide_eq_true (by omega)
        clear HF2 e0
        generalize jnT Wsc (args.map codeT) = jA at *
        generalize args.length = na at *
        have q1 : ¬ (9223372036854775807 < 5 + dv.size) := by omega
        have q2 : ¬ (9223372036854775807 < 5 + dv.size + 1) := by omega
        have q3 : ¬ (9223372036854775807 < 5 + dv.size + 1 + jo.size) := by omega
        have q4 : ¬ (9223372036854775807 < 5 + dv.size + 1 + jo.size + 2) := by omega
        go_wp2_with fail
        go_region_held3 (fun w' => w'.cell? ⟨w.heap.size, 2, none⟩ = some (.int .i64 at0) ∧ w'.cell? ⟨w.heap.size, 3, none⟩ = some (.slice oa outs.length oc)) (go_keep) (first | (go_at_call 12; refine (unhide HDC2 _ HBr).mono ?_; rintro e wn ⟨rfl, HBn, k2', k3'⟩) | (go_at_call 24; refine (unhide HJN2 _ (by first | exact HBn | exact HBr)).mono ?_; rintro e wj ⟨rfl, rfl⟩))
        all_goals
          go_wp2_with fail
          refine (unhide HJA _ (unhide HBn)).mono ?_
          rintro e wj ⟨rfl, rfl⟩
          go_wp2
          go_ret
          exact ⟨ret_str (unhide HF3).symm, unhide HFIN _ (unhide HBn)⟩

end Go.Proofs.YtmglbkndjnflkaaGreatDoor
