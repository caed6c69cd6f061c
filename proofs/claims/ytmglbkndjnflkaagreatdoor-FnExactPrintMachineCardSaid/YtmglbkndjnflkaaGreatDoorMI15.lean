import Derived.Test.YtmglbkndjnflkaaGreatDoorMI14
import Derived.Test.YtmglbkndjnflkaaGreatDoorMI9
namespace Go.Proofs.YtmglbkndjnflkaaGreatDoor
open Go.RowKit
set_option linter.unusedSimpArgs false
set_option linter.unusedVariables false

theorem stF_leaf (ks : List DClass) (k : DClass) (f : Nat) (s : DStm) (ss : List DStm) (H : List ByteArray) (d : Int) (hd : ¬ 20 < d) (hu : unB s = true) (h4 : s.kind ≠ 4) {ok : Bool} (hl : leafB ks k H s = ok) : stF ks k f s ss H d = if ok = false then none else some (.leaf s .nil, ss) := by
  unfold stF
  rw [if_neg hd, if_neg (by rw [hu]; decide), if_neg h4, hl]
theorem stF_if (ks : List DClass) (k : DClass) (f : Nat) (s : DStm) (ss : List DStm) (H : List ByteArray) (d : Int) (hd : ¬ 20 < d) (hu : unB s = true) (h4 : s.kind = 4) : stF ks k f s ss H d = chF ks k f s ss H d := by
  unfold stF
  rw [if_neg hd, if_neg (by rw [hu]; decide), if_pos h4]
  rfl
theorem StPost.shape {X : BD} {H : List ByteArray} {w w' : World} {o : Option (PL × List DStm)} {e : Ending} (h : StPost X H w o e w') : e = .returned .nilIface ∨ ∃ x : TypeId × Nat, e = .returned (.iface x.1 (.pointer (some ⟨x.2, 0, none⟩))) := by
  unfold StPost at h
  cases o with
  | none => exact Or.inl h.1
  | some q =>
    obtain ⟨x, h1, _⟩ := h
    exact Or.inr ⟨x, h1⟩
set_option maxRecDepth 20000 in
set_option maxHeartbeats 2000000 in
theorem statement_ok (X : BD) (hE : BE X) (hkb : ∀ x, x ∈ X.known → 0 ≤ x ∧ x ≤ 400001) (f : Nat) (hL : ListDoes X f) (H : List ByteArray) (nx : Nat) (d : Int) (w : World) (hS : BS X w H nx) (hG : GS X w nx) (hf : X.k.body.length - nx < f) (hd : 0 ≤ d) (hd2 : d ≤ 21) (hH : (H.length : Int) ≤ d) (s : DStm) (sb so : Nat) (ov cv av : Value) (hA : SA X.W0 sb so s ov cv av) :
    Calls Tryz.prog 120 #[.pointer (some ⟨X.bb, 0, none⟩), .pointer (some ⟨sb, so, none⟩), .int .i64 d] w (StPost X H w (stF X.ks X.k f s (X.k.body.drop nx) H d)) := by
  by_cases h20 : 20 < d
  · rw [show stF X.ks X.k f s (X.k.body.drop nx) H d = none from if_pos h20]
    have e1 : decide (20 < d) = true := decide_eq_true h20
    have HO := hide hS.old
    clear hE hkb hL hS hG hf hH hA h20
    go_enter Tryz.func120, Tryz.ntmps120
    go_wp2
    go_ret
    exact ⟨rfl, unhide HO⟩
  have e1 : decide (20 < d) = false := decide_eq_false h20
  have HUE := hide (unusedEmpty_ok s sb so ov cv av w (hA.stays rfl hS.old))
  cases hu : unB s
  · rw [show stF X.ks X.k f s (X.k.body.drop nx) H d = none by unfold stF; rw [if_neg h20, if_pos hu]]
    rw [hu] at HUE
    have HOW : Hid (∀ w', Below w.heap.size w w' → Below X.W0.heap.size X.W0 w') := fun w' hb => (hS.stays hb).old
    clear hE hkb hL hS hG hf hH hA h20 hu
    go_enter Tryz.func120, Tryz.ntmps120
    go_wp2_with fail
    refine (unhide HUE).mono ?_
    rintro e w1 ⟨rfl, hb1⟩
    have HB1 := hide hb1
    clear hb1
    go_wp2
    go_ret
    exact ⟨rfl, unhide HOW _ (unhide HB1)⟩
  rw [hu] at HUE
  have HK0 : Hid (∀ w', Below w.heap.size w w' → w'.cell? ⟨sb, so, none⟩ = some (.int .i64 s.kind)) := fun w' hb => (hA.stays rfl (hS.stays hb).old).c0
  have HBU : Hid (∀ w1 o e w2, Below w.heap.size w w1 → StPost X H w1 o e w2 → StPost X H w o e w2) := fun w1 o e w2 hb h => by
    unfold StPost at *
    cases o with
    | none => exact h
    | some q =>
      obtain ⟨i, rest⟩ := q
      obtain ⟨x, h1, h2, h3, h4, h5⟩ := h
      exact ⟨x, h1, NodesAt.mono (fun b h => ⟨Nat.le_trans hb.size h.1, h.2⟩) _ _ h2, h3, (But.of_below hb).trans h4, h5⟩
  have hlo := hS.lo
  have hnl := hS.nxl
  by_cases k1 : s.kind = 1
  · have HC : Hid (∀ w', Below w.heap.size w w' → Calls Tryz.prog 130 #[.pointer (some ⟨X.bb, 0, none⟩), .pointer (some ⟨sb, so, none⟩)] w' (StPost X H w (stF X.ks X.k f s (X.k.body.drop nx) H d))) := fun w' hb => by
      refine (set_ok X hE H nx w' (hS.stays hb) s sb so ov cv av hA k1).mono ?_
      intro e w2 h
      exact unhide HBU _ _ _ _ hb (h.st hE (Nat.le_trans hlo hb.size) hnl (stF_leaf _ _ _ _ _ _ _ h20 hu (by omega) (by unfold leafB; rw [if_pos k1])))
    rw [k1] at HK0
    clear hE hkb hL hS hG hf hH hA h20 hu HBU
    generalize stF X.ks X.k f s (X.k.body.drop nx) H d = R at *
    go_enter Tryz.func120, Tryz.ntmps120
    go_wp2_with fail
    refine (unhide HUE).mono ?_
    rintro e w1 ⟨rfl, hb1⟩
    have k0 := unhide HK0 w1 hb1
    have HC1 := hide (unhide HC w1 hb1)
    clear hb1
    go_wp2_with fail
    refine (unhide HC1).mono ?_
    intro e w2 h2
    have H2 := hide h2
    rcases h2.shape with rfl | ⟨x, rfl⟩
    all_goals
      clear h2
      go_wp2
      go_ret
      exact unhide H2
  by_cases k2 : s.kind = 2
  · have HC : Hid (∀ w', Below w.heap.size w w' → Calls Tryz.prog 131 #[.pointer (some ⟨X.bb, 0, none⟩), .pointer (some ⟨sb, so, none⟩)] w' (StPost X H w (stF X.ks X.k f s (X.k.body.drop nx) H d))) := fun w' hb => by
      refine (save_ok X hE H nx w' (hS.stays hb) s sb so ov cv av hA k2).mono ?_
      intro e w2 h
      exact unhide HBU _ _ _ _ hb (h.st hE (Nat.le_trans hlo hb.size) hnl (stF_leaf _ _ _ _ _ _ _ h20 hu (by omega) (by unfold leafB; rw [if_neg k1, if_pos k2])))
    rw [k2] at HK0
    clear hE hkb hL hS hG hf hH hA h20 hu HBU
    generalize stF X.ks X.k f s (X.k.body.drop nx) H d = R at *
    go_enter Tryz.func120, Tryz.ntmps120
    go_wp2_with fail
    refine (unhide HUE).mono ?_
    rintro e w1 ⟨rfl, hb1⟩
    have k0 := unhide HK0 w1 hb1
    have HC1 := hide (unhide HC w1 hb1)
    clear hb1
    go_wp2_with fail
    refine (unhide HC1).mono ?_
    intro e w2 h2
    have H2 := hide h2
    rcases h2.shape with rfl | ⟨x, rfl⟩
    all_goals
      clear h2
      go_wp2
      go_ret
      exact unhide H2
  by_cases k3 : s.kind = 3
  · have HC : Hid (∀ w', Below w.heap.size w w' → Calls Tryz.prog 132 #[.pointer (some ⟨X.bb, 0, none⟩), .pointer (some ⟨sb, so, none⟩)] w' (StPost X H w (stF X.ks X.k f s (X.k.body.drop nx) H d))) := fun w' hb => by
      refine (call_ok X hE H nx w' (hS.stays hb) (hG.stays hb) s sb so ov cv av hA k3).mono ?_
      intro e w2 h
      exact unhide HBU _ _ _ _ hb (h.st hE (Nat.le_trans hlo hb.size) hnl (stF_leaf _ _ _ _ _ _ _ h20 hu (by omega) (by unfold leafB; rw [if_neg k1, if_neg k2, if_pos k3])))
    rw [k3] at HK0
    clear hE hkb hL hS hG hf hH hA h20 hu HBU
    generalize stF X.ks X.k f s (X.k.body.drop nx) H d = R at *
    go_enter Tryz.func120, Tryz.ntmps120
    go_wp2_with fail
    refine (unhide HUE).mono ?_
    rintro e w1 ⟨rfl, hb1⟩
    have k0 := unhide HK0 w1 hb1
    have HC1 := hide (unhide HC w1 hb1)
    clear hb1
    go_wp2_with fail
    refine (unhide HC1).mono ?_
    intro e w2 h2
    have H2 := hide h2
    rcases h2.shape with rfl | ⟨x, rfl⟩
    all_goals
      clear h2
      go_wp2
      go_ret
      exact unhide H2
  by_cases k4 : s.kind = 4
  · have HC : Hid (∀ w', Below w.heap.size w w' → Calls Tryz.prog 133 #[.pointer (some ⟨X.bb, 0, none⟩), .pointer (some ⟨sb, so, none⟩), .int .i64 d] w' (StPost X H w (stF X.ks X.k f s (X.k.body.drop nx) H d))) := fun w' hb => by
      refine (choose_ok X hE hkb f hL H nx d w' (hS.stays hb) hf hd (by omega) hH s sb so ov cv av hA).mono ?_
      intro e w2 h
      exact unhide HBU _ _ _ _ hb (by rw [stF_if _ _ _ _ _ _ _ h20 hu k4]; exact h)
    rw [k4] at HK0
    clear hE hkb hL hS hG hf hH hA h20 hu HBU
    generalize stF X.ks X.k f s (X.k.body.drop nx) H d = R at *
    go_enter Tryz.func120, Tryz.ntmps120
    go_wp2_with fail
    refine (unhide HUE).mono ?_
    rintro e w1 ⟨rfl, hb1⟩
    have k0 := unhide HK0 w1 hb1
    have HC1 := hide (unhide HC w1 hb1)
    clear hb1
    go_wp2_with fail
    refine (unhide HC1).mono ?_
    intro e w2 h2
    have H2 := hide h2
    rcases h2.shape with rfl | ⟨x, rfl⟩
    all_goals
      clear h2
      go_wp2
      go_ret
      exact unhide H2
  have HN : Hid (stF X.ks X.k f s (X.k.body.drop nx) H d = none) := by
    refine hide ?_
    rw [stF_leaf X.ks X.k f s (X.k.body.drop nx) H d h20 hu k4 (show leafB X.ks X.k H s = false by unfold leafB; rw [if_neg k1, if_neg k2, if_neg k3]), if_pos rfl]
  rw [unhide HN]
  have HOW : Hid (∀ w', Below w.heap.size w w' → Below X.W0.heap.size X.W0 w') := fun w' hb => (hS.stays hb).old
  have j1 : (s.kind == 1) = false := by rw [beq_eq_false_iff_ne]; exact k1
  have j2 : (s.kind == 2) = false := by rw [beq_eq_false_iff_ne]; exact k2
  have j3 : (s.kind == 3) = false := by rw [beq_eq_false_iff_ne]; exact k3
  have j4 : (s.kind == 4) = false := by rw [beq_eq_false_iff_ne]; exact k4
  clear hE hkb hL hS hG hf hH hA h20 hu HBU HN k1 k2 k3 k4
  go_enter Tryz.func120, Tryz.ntmps120
  go_wp2_with fail
  refine (unhide HUE).mono ?_
  rintro e w1 ⟨rfl, hb1⟩
  have k0 := unhide HK0 w1 hb1
  have HB1 := hide hb1
  clear hb1
  go_wp2
  go_ret
  exact ⟨rfl, unhide HOW _ (unhide HB1)⟩

end Go.Proofs.YtmglbkndjnflkaaGreatDoor
