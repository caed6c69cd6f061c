import Derived.Test.YtnfgcklppaknbaaWI5
import Derived.Test.YtnfgcklppaknbaaWgtD
import Derived.Test.YtnfgcklppaknbaaSpecShape
namespace Go.Proofs.Ytnfgcklppaknbaa
open Go.RowKit
set_option linter.unusedSimpArgs false
set_option linter.unusedVariables false

def weightI (ns : List DNode) (nd : Int) : Int := if shapeB ns = true ∧ 0 ≤ nd ∧ nd < ns.length then (wsTo ns ns.length).getD nd.toNat 0 else -1
theorem ws_getD (ns : List DNode) (i k : Nat) (hi : i < k) (m : Nat) (hm : k ≤ m) : (wsTo ns m).getD i 0 = (wsTo ns k).getD i 0 := by
  induction m with
  | zero => omega
  | succ m ih =>
    by_cases h : k = m + 1
    · rw [h]
    · rw [ws_old ns m i (by omega)]
      exact ih (by omega)
theorem weight_at (ns : List DNode) (k : Nat) (hk : k < ns.length) (hs : shapeB ns = true) : weightI ns k = ((wNodeTo ns k (wsTo ns k) ns[k].eqs ns[k].eqs.length : Nat) : Int) := by
  unfold weightI
  rw [if_pos ⟨hs, by omega, by omega⟩, Int.toNat_natCast, ws_getD ns k (k + 1) (by omega) _ (by omega), ws_new ns k hk]
theorem shape_len (ns : List DNode) (h : shapeB ns = true) : ns.length ≤ 200 := by
  unfold shapeB at h
  simp only [Bool.and_eq_true, decide_eq_true_iff] at h
  exact h.1.2

set_option maxHeartbeats 1000000 in
theorem specWeight_ok (ns : List DNode) (nd : Int) (v : Value) (w : World) (h1 : SlAt 5 112 RNode 0 w v ns) (hsm : ∀ n, n ∈ ns → n.ins.length + n.outs.length + n.vars.length ≤ 1048576) :
    Calls Try.prog 10 #[.agg #[v], .int .i64 nd] w (Ans (.int .i64 (weightI ns nd)) w) := by
  obtain ⟨b0, c0, rfl⟩ := h1.shape
  have n1 := h1.len'
  have B0 := hide ((Below.refl w.heap.size w).alloc (Nat.le_refl _) (.cells #[.slice b0 ns.length c0] 29))
  have HSH := hide (specShape_ok ns _ _ (h1.stays RNode_kept (unhide B0)) hsm)
  have H1 := hide h1
  clear h1
  cases hsh : shapeB ns
  · have e : weightI ns nd = -1 := by
      unfold weightI
      rw [if_neg (by rw [hsh]; simp)]
    rw [e]
    have HSH0 := unhide HSH
    rw [hsh] at HSH0
    have HSH1 := hide HSH0
    clear HSH0 HSH hsh e
    go_enter Try.func10, Try.ntmps10
    go_wp2_with fail
    refine (unhide HSH1).mono ?_
    rintro e w1 ⟨rfl, hb1⟩
    have B1 : Hid (Below w.heap.size w w1) := (unhide B0).trans (hb1.mono (unhide B0).size)
    clear hb1
    go_wp2
    go_ret
    exact ⟨rfl, unhide B1⟩
  have HSH0 := unhide HSH
  rw [hsh] at HSH0
  have HSH1 := hide HSH0
  clear HSH0 HSH
  by_cases hlo : nd < 0
  · have e : weightI ns nd = -1 := by
      unfold weightI
      rw [if_neg (by omega)]
    rw [e]
    have d1 : decide (nd < 0) = true := decide_eq_true hlo
    clear hsh e
    go_enter Try.func10, Try.ntmps10
    go_wp2_with fail
    refine (unhide HSH1).mono ?_
    rintro e w1 ⟨rfl, hb1⟩
    have B1 : Hid (Below w.heap.size w w1) := (unhide B0).trans (hb1.mono (unhide B0).size)
    clear hb1
    go_wp2
    go_ret
    exact ⟨rfl, unhide B1⟩
  have d1 : decide (nd < 0) = false := decide_eq_false hlo
  by_cases hhi : (ns.length : Int) ≤ nd
  · have e : weightI ns nd = -1 := by
      unfold weightI
      rw [if_neg (by omega)]
    rw [e]
    have d2 : decide ((ns.length : Int) ≤ nd) = true := decide_eq_true hhi
    clear hsh e
    go_enter Try.func10, Try.ntmps10
    go_wp2_with fail
    refine (unhide HSH1).mono ?_
    rintro e w1 ⟨rfl, hb1⟩
    have B1 : Hid (Below w.heap.size w w1) := (unhide B0).trans (hb1.mono (unhide B0).size)
    have k1 : w1.cell? ⟨w.heap.size, 0, none⟩ = some (.slice b0 ns.length c0) := by rw [box_cell (B := 0) (box_of hb1) 0]; rfl
    clear hb1
    go_wp2
    go_ret
    exact ⟨rfl, unhide B1⟩
  have d2 : decide ((ns.length : Int) ≤ nd) = false := decide_eq_false hhi
  obtain ⟨k, rfl⟩ := Int.eq_ofNat_of_zero_le (show 0 ≤ nd by omega)
  have hk : k < ns.length := by omega
  have hkz : ns.length ≤ 200 := shape_len ns hsh
  have HW := hide (fun w' (hb : Below w.heap.size w w') => l2Weights_ok ns _ w' ((unhide H1).stays RNode_kept hb) (shape_small ns hsh) (shape_len ns hsh))
  have HE : Hid (weightI ns (k : Int) = (wsTo ns ns.length).getD k 0) := by
    show weightI ns k = _
    unfold weightI
    rw [if_pos ⟨hsh, by omega, by omega⟩, Int.toNat_natCast]
  clear hsh
  go_enter Try.func10, Try.ntmps10
  go_wp2_with fail
  refine (unhide HSH1).mono ?_
  rintro e w1 ⟨rfl, hb1⟩
  have B1 : Hid (Below w.heap.size w w1) := (unhide B0).trans (hb1.mono (unhide B0).size)
  have HBX := hide (box_of hb1)
  have k1 : w1.cell? ⟨w.heap.size, 0, none⟩ = some (.slice b0 ns.length c0) := by rw [box_cell (B := 0) (unhide HBX) 0]; rfl
  clear hb1
  go_wp2_with fail
  refine (unhide HW w1 (unhide B1)).mono ?_
  rintro e w2 ⟨vw, rfl, hS, hb2⟩
  have B2 : Hid (Below w.heap.size w w2) := (unhide B1).trans (hb2.mono (unhide B1).size)
  have hwl := wsTo_length ns ns.length
  obtain ⟨bb, oo, cap, hvw, hAt⟩ := hS.at' k (by rw [hwl]; exact hk)
  obtain ⟨hbb, cs, hcl, hcc, rfl, _⟩ := hAt
  have z0 := hcc 0 (by simp)
  simp only [List.getElem_cons_zero, Nat.add_zero, Nat.mul_one] at z0
  rw [hwl] at hvw
  have HG : Hid ((wsTo ns ns.length)[k]'(by rw [hwl]; exact hk) = (wsTo ns ns.length).getD k 0) := by
    show _ = _
    simp [List.getD, hwl, hk]
  generalize (wsTo ns ns.length)[k]'(by rw [hwl]; exact hk) = wk at *
  subst hvw
  have hk' : (k : Int) < (ns.length : Int) := by omega
  clear hb2 hS hcc hwl hcl k1
  go_wp2
  go_ret
  exact ⟨ret_int ((unhide HG).trans (unhide HE).symm), unhide B2⟩

set_option maxHeartbeats 2000000 in
theorem implWeight_ok (ns : List DNode) (nd : Int) (v : Value) (w : World) (h1 : SlAt 5 112 RNode 0 w v ns) :
    Calls Try.prog 11 #[.agg #[v], .int .i64 nd] w (Ans (.int .i64 (weightI ns nd)) w) := by
  obtain ⟨b0, c0, rfl⟩ := h1.shape
  have n1 := h1.len'
  have hcap : ns.length ≤ c0 := by
    obtain ⟨_, _, hv, ⟨_, hc⟩, _⟩ := h1
    simp only [Value.slice.injEq] at hv
    omega
  have B0 := hide ((Below.refl w.heap.size w).alloc (Nat.le_refl _) (.cells #[.slice b0 ns.length c0] 29))
  have HSH := hide (implShape_ok ns _ _ (h1.stays RNode_kept (unhide B0)))
  have H1 := hide h1
  clear h1
  cases hsh : shapeB ns
  · have e : weightI ns nd = -1 := by
      unfold weightI
      rw [if_neg (by rw [hsh]; simp)]
    rw [e]
    have HSH0 := unhide HSH
    rw [hsh] at HSH0
    have HSH1 := hide HSH0
    clear HSH0 HSH hsh e
    go_enter Try.func11, Try.ntmps11
    go_wp2_with fail
    refine (unhide HSH1).mono ?_
    rintro e w1 ⟨rfl, hb1⟩
    have B1 : Hid (Below w.heap.size w w1) := (unhide B0).trans (hb1.mono (unhide B0).size)
    clear hb1
    go_wp2
    go_ret
    exact ⟨rfl, unhide B1⟩
  have HSH0 := unhide HSH
  rw [hsh] at HSH0
  have HSH1 := hide HSH0
  clear HSH0 HSH
  by_cases hlo : nd < 0
  · have e : weightI ns nd = -1 := by
      unfold weightI
      rw [if_neg (by omega)]
    rw [e]
    have d1 : decide (nd < 0) = true := decide_eq_true hlo
    clear hsh e
    go_enter Try.func11, Try.ntmps11
    go_wp2_with fail
    refine (unhide HSH1).mono ?_
    rintro e w1 ⟨rfl, hb1⟩
    have B1 : Hid (Below w.heap.size w w1) := (unhide B0).trans (hb1.mono (unhide B0).size)
    clear hb1
    go_wp2
    go_ret
    exact ⟨rfl, unhide B1⟩
  have d1 : decide (nd < 0) = false := decide_eq_false hlo
  by_cases hhi : (ns.length : Int) ≤ nd
  · have e : weightI ns nd = -1 := by
      unfold weightI
      rw [if_neg (by omega)]
    rw [e]
    have d2 : decide ((ns.length : Int) ≤ nd) = true := decide_eq_true hhi
    clear hsh e
    go_enter Try.func11, Try.ntmps11
    go_wp2_with fail
    refine (unhide HSH1).mono ?_
    rintro e w1 ⟨rfl, hb1⟩
    have B1 : Hid (Below w.heap.size w w1) := (unhide B0).trans (hb1.mono (unhide B0).size)
    have k1 : w1.cell? ⟨w.heap.size, 0, none⟩ = some (.slice b0 ns.length c0) := by rw [box_cell (B := 0) (box_of hb1) 0]; rfl
    clear hb1
    go_wp2
    go_ret
    exact ⟨rfl, unhide B1⟩
  have d2 : decide ((ns.length : Int) ≤ nd) = false := decide_eq_false hhi
  obtain ⟨k, rfl⟩ := Int.eq_ofNat_of_zero_le (show 0 ≤ nd by omega)
  have hk : k < ns.length := by omega
  have hkz : ns.length ≤ 200 := shape_len ns hsh
  obtain ⟨b, o, cz, hv, _⟩ := (unhide H1).at' k hk
  simp only [Value.slice.injEq] at hv
  obtain ⟨rfl, _, rfl⟩ := hv
  have HAT : Hid (∀ i (h : i < ns.length), At 5 RNode w b (o + i * 5) ns[i]) := fun i h => by
    obtain ⟨b', o', c', hv, ha⟩ := (unhide H1).at' i h
    simp only [Value.slice.injEq, Option.some.injEq, Addr.mk.injEq] at hv
    obtain ⟨⟨rfl, rfl, _⟩, _, _⟩ := hv
    exact ha
  have HE := hide (weight_at ns k hk hsh)
  have HLIB := hide (fun w' (hb : Below w.heap.size w w') => libraryOf_ok ns k b o c0 w' (by omega) (by omega) (fun i h => (unhide HAT i h).stays RNode_kept hb) (shape_nsmall ns hsh) (shape_name ns hsh))
  have HWG := hide (fun B w' (hb : Below w.heap.size w w') (hL : LibAt w' B b o ns k) => weigh_ok ns k ns[k] B b o b (o + k * 5) w' ((unhide HAT k hk).stays RNode_kept hb) hL (shape_nsmall ns hsh _ (List.getElem_mem hk)) (fun e _ hc => find_none ns (shape_name ns hsh) k e.call hc))
  have HOUT : Hid (∀ w', Below (w.heap.size + 1) (w.alloc (.cells #[.slice (some ⟨b, o, none⟩) ns.length c0] 29)) w' → Below w.heap.size w w' ∧ w'.cell? ⟨w.heap.size, 0, none⟩ = some (.slice (some ⟨b, o, none⟩) ns.length c0)) := fun w' hb => ⟨(unhide B0).trans (hb.mono (Nat.le_succ _)), by rw [box_cell (B := 0) hb 0]; rfl⟩
  have HL2 : Hid (∀ w', Hid (Below (w.heap.size + 1) (w.alloc (.cells #[.slice (some ⟨b, o, none⟩) ns.length c0] 29)) w') → Calls Try.prog 21 #[.slice (some ⟨b, o, none⟩) k c0] w' fun e w'' => ∃ B, e = .returned (.map (some B)) ∧ Hid (LibAt w'' B b o ns k) ∧ Hid (Below (w.heap.size + 1) (w.alloc (.cells #[.slice (some ⟨b, o, none⟩) ns.length c0] 29)) w'') ∧ w''.cell? ⟨w.heap.size, 0, none⟩ = some (.slice (some ⟨b, o, none⟩) ns.length c0)) := fun w' hb => by
    refine (unhide HLIB w' (unhide HOUT w' (unhide hb)).1).mono ?_
    rintro e w'' ⟨B, rfl, g1, g2⟩
    have g3 : Below (w.heap.size + 1) (w.alloc (.cells #[.slice (some ⟨b, o, none⟩) ns.length c0] 29)) w'' := (unhide hb).trans (g2.mono (by have := (unhide hb).size; simpa using this))
    exact ⟨B, rfl, g1, g3, (unhide HOUT w'' g3).2⟩
  have HW2 : Hid (∀ B w', Hid (Below (w.heap.size + 1) (w.alloc (.cells #[.slice (some ⟨b, o, none⟩) ns.length c0] 29)) w') → Hid (LibAt w' B b o ns k) → Calls Try.prog 22 #[.map (some B), .pointer (some ⟨b, o + k * 5, none⟩)] w' fun e w'' => e = .returned (.int .i64 (weightI ns (k : Int))) ∧ Hid (Below w.heap.size w w'') ∧ w''.cell? ⟨w.heap.size, 0, none⟩ = some (.slice (some ⟨b, o, none⟩) ns.length c0)) := fun B w' hb hL => by
    refine (unhide HWG B w' (unhide HOUT w' (unhide hb)).1 (unhide hL)).mono ?_
    rintro e w'' ⟨rfl, g2⟩
    have g3 : Below (w.heap.size + 1) (w.alloc (.cells #[.slice (some ⟨b, o, none⟩) ns.length c0] 29)) w'' := (unhide hb).trans (g2.mono (by have := (unhide hb).size; simpa using this))
    exact ⟨by rw [unhide HE], (unhide HOUT w'' g3).1, (unhide HOUT w'' g3).2⟩
  generalize weightI ns (k : Int) = wi at *
  clear HE HWG HLIB HAT H1 hsh
  have hk' : (k : Int) < (ns.length : Int) := by omega
  have hk2 : (k : Int) ≤ (ns.length : Int) := by omega
  have hk3 : (0 : Int) ≤ (k : Int) := by omega
  have hk4 : (k : Int) ≤ (c0 : Int) := by omega
  go_enter Try.func11, Try.ntmps11
  go_wp2_with fail
  refine (unhide HSH1).mono ?_
  rintro e w1 ⟨rfl, hb1⟩
  have HBX := hide (box_of hb1)
  have HBXd : Hid (Below (w.heap.size + 1) (w.alloc (.cells #[.slice (some ⟨b, o, none⟩) ns.length c0] 29)) w1.drew) := (unhide HBX).drew
  have k1 : w1.cell? ⟨w.heap.size, 0, none⟩ = some (.slice (some ⟨b, o, none⟩) ns.length c0) := (unhide HOUT _ (unhide HBX)).2
  clear hb1 HBX
  go_wp2_with fail
  go_region_held3 (fun w' => w'.cell? ⟨w.heap.size, 0, none⟩ = some (.slice (some ⟨b, o, none⟩) ns.length c0)) (go_keep) (first | (go_at_call 21; refine (unhide HL2 _ HBXd).mono ?_; rintro e w6 ⟨B, rfl, HL6, HB6, q6⟩) | (go_at_call 22; refine (unhide HW2 _ _ HB6 HL6).mono ?_; rintro e w7 ⟨rfl, HB7, q7⟩))
  go_wp2
  go_ret
  exact ⟨rfl, unhide HB7⟩

end Go.Proofs.Ytnfgcklppaknbaa
