import Derived.Test.YtnfgcklppaknbaaWI4
import Derived.Test.YtnfgcklppaknbaaWgtC
import Derived.Test.YtnfgcklppaknbaaImplC
import Derived.Carry
namespace Go.Proofs.Ytnfgcklppaknbaa
open Go.RowKit
set_option linter.unusedSimpArgs false
set_option linter.unusedVariables false

theorem cd_pos (c : List DItem) (h : cdB c = true) : 0 < c.length := by
  cases c with
  | nil => simp [cdB, wk] at h
  | cons x xs => simp
theorem shape_nsmall (ns : List DNode) (h : shapeB ns = true) (n : DNode) (hn : n ∈ ns) : NSmall n := by
  unfold shapeB at h
  simp only [Bool.and_eq_true] at h
  have hnd := (node_iff n).1 (List.all_eq_true.1 h.2 n hn)
  refine ⟨hnd.1.2.2.2, fun e he => ?_⟩
  have heq := List.all_eq_true.1 hnd.2.2.2.2.2 e he
  refine ⟨eq_small e heq, fun hc => ?_⟩
  unfold eqB at heq
  rw [if_pos hc] at heq
  simp only [Bool.and_eq_true] at heq
  exact cd_pos _ heq.2.2
theorem shape_name (ns : List DNode) (h : shapeB ns = true) (n : DNode) (hn : n ∈ ns) : nameB n.name = true := by
  unfold shapeB at h
  simp only [Bool.and_eq_true] at h
  exact ((node_iff n).1 (List.all_eq_true.1 h.2 n hn)).2.1
theorem find_none (ns : List DNode) (h : ∀ n, n ∈ ns → nameB n.name = true) (k : Nat) (s : ByteArray) (hs : s.size = 0) : findI ns k s < 0 := by
  have : findI ns k s = -1 := by
    refine find_miss ns k s fun j hj _ => ?_
    cases hb : (ns[j].name.toList == s.toList)
    · rfl
    · have e := (name_eq _ _).1 hb
      have h1 := h ns[j] (List.getElem_mem hj)
      rw [← e, nameB_empty s hs] at h1
      cases h1
  omega
theorem lib_none (w : World) (b o : Nat) (ns : List DNode) : LibAt (w.alloc (.map #[] 0)) w.heap.size b o ns 0 := by
  refine ⟨fun _ => .pointer none, MapF.made w, fun _ _ => rfl, fun s i hi => ?_⟩
  have := find_bd ns 0 s
  omega

set_option maxHeartbeats 1000000 in
theorem libraryOf_ok (ns : List DNode) (n b o cap : Nat) (w : World) (hn : n ≤ ns.length) (hn2 : n ≤ 200) (hA : ∀ i (h : i < ns.length), At 5 RNode w b (o + i * 5) ns[i]) (hS : ∀ x, x ∈ ns → NSmall x) (hN : ∀ x, x ∈ ns → nameB x.name = true) :
    Calls Try.prog 21 #[.slice (some ⟨b, o, none⟩) n cap] w fun e w' => ∃ B, e = .returned (.map (some B)) ∧ LibAt w' B b o ns n ∧ Below w.heap.size w w' := by
  have HADD := hide (fun k (hk : k < ns.length) (hk2 : k ≤ 200) w' (hb : Below w.heap.size w w') (hL : LibAt w' w.heap.size b o ns k) => add_ok ns k hk w.heap.size b o w' ((hA k hk).stays RNode_kept hb) hL (hS _ (List.getElem_mem hk)) (fun e _ hc => find_none ns hN k e.call hc) hk2)
  have HL0 := hide (lib_none w b o ns)
  have B0 := hide ((Below.refl w.heap.size w).alloc (Nat.le_refl _) (.map #[] 0))
  have hmm := @run_makeMap Try.prog
  clear hA hS hN
  go_enter Try.func21, Try.ntmps21
  go_wp2
  clear hmm
  go_loopg [8] n (fun g i wr => ∃ (q : Nat), q ≤ n ∧ g = n - q ∧ i = .int .i64 q ∧ LibAt wr w.heap.size b o ns q ∧ Below w.heap.size w wr)
  case atStart => exact ⟨0, Nat.zero_le _, by omega, rfl, unhide HL0, unhide B0⟩
  case round =>
    obtain ⟨q, hq, hgq, rfl, hLq, hblq⟩ := hrel
    rename World => wq
    have HGQ := hide hgq
    have HLQ := hide hLq
    have HBQ := hide hblq
    clear hgq hLq hblq
    by_cases hlt : q < n
    · have HC := hide (unhide HADD q (by omega) (by omega) wq (unhide HBQ) (unhide HLQ))
      have hlt' : (q : Int) < (n : Int) := by omega
      go_wp2_with fail
      refine (unhide HC).mono ?_
      rintro e w1 ⟨rfl, hL1, hb1⟩
      have HL1 := hide hL1
      have HB1 : Hid (Below w.heap.size w w1) := (unhide HBQ).trans hb1
      clear hL1 hb1
      go_wp2
      go_roundg (n - (q + 1))
      case measure => have := unhide HGQ; omega
      case rel => exact ⟨q + 1, by omega, rfl, by go_num, unhide HL1, unhide HB1⟩
    · have e : q = n := by omega
      subst e
      go_wp2
      go_ret
      exact ⟨_, rfl, unhide HLQ, unhide HBQ⟩

end Go.Proofs.Ytnfgcklppaknbaa
