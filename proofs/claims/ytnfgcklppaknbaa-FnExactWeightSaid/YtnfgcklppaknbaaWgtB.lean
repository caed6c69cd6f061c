import Derived.Test.YtnfgcklppaknbaaWgt
namespace Go.Proofs.Ytnfgcklppaknbaa
open Go.RowKit
set_option linter.unusedSimpArgs false
set_option linter.unusedVariables false

def findI (ns : List DNode) (n : Nat) (s : ByteArray) : Int := match (ns.take n).findIdx? (fun x => x.name.toList == s.toList) with
  | some i => i
  | none => -1

theorem find_hit (ns : List DNode) (n k : Nat) (s : ByteArray) (hk : k < n) (hn : k < ns.length) (h : (ns[k].name.toList == s.toList) = true) (hb : ∀ j (hj : j < ns.length), j < k → (ns[j].name.toList == s.toList) = false) : findI ns n s = k := by
  unfold findI
  have : (ns.take n).findIdx? (fun x => x.name.toList == s.toList) = some k := by
    rw [List.findIdx?_eq_some_iff_getElem]
    refine ⟨by rw [List.length_take]; omega, by rw [List.getElem_take]; exact h, fun j hj => ?_⟩
    rw [List.getElem_take]
    simp [hb j (by omega) hj]
  rw [this]
theorem find_miss (ns : List DNode) (n : Nat) (s : ByteArray) (hb : ∀ j (hj : j < ns.length), j < n → (ns[j].name.toList == s.toList) = false) : findI ns n s = -1 := by
  unfold findI
  have : (ns.take n).findIdx? (fun x => x.name.toList == s.toList) = none := by
    rw [List.findIdx?_eq_none_iff]
    intro x hx
    obtain ⟨j, hj, rfl⟩ := List.getElem_of_mem hx
    rw [List.getElem_take]
    rw [List.length_take] at hj
    exact hb j (by omega) (by omega)
  rw [this]
theorem find_bd (ns : List DNode) (n : Nat) (s : ByteArray) : -1 ≤ findI ns n s ∧ findI ns n s < n := by
  unfold findI
  cases h : (ns.take n).findIdx? (fun x => x.name.toList == s.toList) with
  | none => simp only; omega
  | some i =>
    rw [List.findIdx?_eq_some_iff_getElem] at h
    obtain ⟨hi, _⟩ := h
    rw [List.length_take] at hi
    simp only
    omega

set_option maxHeartbeats 400000 in
theorem l2Find_ok (ns : List DNode) (v : Value) (n : Nat) (s : ByteArray) (w : World) (h1 : SlAt 5 112 RNode 0 w v ns) (hn : n ≤ ns.length) :
    Calls Try.prog 37 #[.agg #[v], .int .i64 n, .string s] w (Ans (.int .i64 (findI ns n s)) w) := by
  obtain ⟨a, cap, rfl, _, hl, hx⟩ := h1
  unfold Len at hl
  have HX := hide hx
  clear hx
  have B0 := hide ((Below.refl w.heap.size w).alloc (Nat.le_refl _) (.cells #[.slice a ns.length cap] 29))
  go_enter Try.func37, Try.ntmps37
  go_wp2
  go_loopg [7] n (fun g i wr => ∃ (k : Nat), k ≤ n ∧ g = n - k ∧ i = .int .i64 k ∧ wr = w.alloc (.cells #[.slice a ns.length cap] 29) ∧ ∀ j (hj : j < ns.length), j < k → (ns[j].name.toList == s.toList) = false)
  case atStart => exact ⟨0, Nat.zero_le _, by omega, rfl, rfl, fun j _ h => absurd h (Nat.not_lt_zero _)⟩
  case round =>
    obtain ⟨k, hk, hg, rfl, hwr, hall⟩ := hrel
    subst hwr
    have HG := hide hg
    have HA := hide hall
    clear hg hall
    by_cases hlt : k < n
    · obtain ⟨b, o, cs, hbo, _, hb, hcs, hc, hR⟩ := unhide HX k (by omega)
      subst hbo
      obtain ⟨ni, no, nv, ne, rfl, hsn, _⟩ := hR
      have c0 := hc 0 (by simp)
      simp only [Nat.mul_one, Nat.add_zero, List.getElem_cons_zero, List.getElem_cons_succ] at c0
      have hki : (k : Int) < (ns.length : Int) := by omega
      clear hc hcs
      cases he : (ns[k].name.toList == s.toList)
      · have A' : ∀ j (hj : j < ns.length), j < k + 1 → (ns[j].name.toList == s.toList) = false := by
          intro j h h1
          by_cases e : j = k
          · subst e; exact he
          · exact unhide HA j h (by omega)
        have HA' := hide A'
        clear A'
        go_wp2
        go_roundg (n - (k + 1))
        case measure => have := unhide HG; omega
        case rel => exact ⟨k + 1, by omega, rfl, by go_num, rfl, unhide HA'⟩
      · have F := find_hit ns n k s hlt (by omega) he (unhide HA)
        have HF := hide F
        clear F
        go_wp2
        go_ret
        exact ⟨ret_int (unhide HF).symm, unhide B0⟩
    · have e : k = n := by omega
      have F := find_miss ns n s (by have := unhide HA; rw [e] at this; exact this)
      have HF := hide F
      clear F
      go_wp2
      go_ret
      exact ⟨ret_int (unhide HF).symm, unhide B0⟩

end Go.Proofs.Ytnfgcklppaknbaa
