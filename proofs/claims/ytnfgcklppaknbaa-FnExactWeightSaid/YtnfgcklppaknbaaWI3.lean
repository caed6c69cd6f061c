import Derived.Test.YtnfgcklppaknbaaWI2
import Derived.Test.YtnfgcklppaknbaaWgtC
import Derived.Test.YtnfgcklppaknbaaMapF
namespace Go.Proofs.Ytnfgcklppaknbaa
open Go.RowKit
set_option linter.unusedSimpArgs false
set_option linter.unusedVariables false

/-- What an equation adds to its node's weight. -/
def uEq (ns : List DNode) (k : Nat) (ws : List Int) (e : DEq) : Nat :=
  1 + 2 * innerN e + lensTo (codesOf e) (codesOf e).length + (if findI ns k e.call < 0 then 0 else (ws.getD (findI ns k e.call).toNat 0).toNat)
def uNodeTo (ns : List DNode) (k : Nat) (ws : List Int) (eqs : List DEq) : Nat → Nat
  | 0 => 1
  | q + 1 => match eqs[q]? with
    | some e => uNodeTo ns k ws eqs q + uEq ns k ws e
    | none => uNodeTo ns k ws eqs q

theorem wEqS_add (ns : List DNode) (k : Nat) (ws : List Int) (w : Nat) (e : DEq) (h : e.call.size = 0 → findI ns k e.call < 0) : wEqS ns k ws w e = wCap (w + uEq ns k ws e) := by
  unfold wEqS wCall wEqLen uEq
  by_cases g : e.call.size = 0
  · rw [if_pos g, if_pos (h g)]
    congr 1
    omega
  · rw [if_neg g]
    by_cases f : findI ns k e.call < 0
    · rw [if_pos f, if_pos f]
      congr 1
      omega
    · rw [if_neg f, if_neg f]
      congr 1
      omega
theorem wCap_add (a c : Nat) : wCap (wCap a + c) = wCap (a + c) := by
  unfold wCap
  split <;> split <;> (try split) <;> omega
theorem wNodeTo_cap (ns : List DNode) (k : Nat) (ws : List Int) (eqs : List DEq) (h : ∀ e, e ∈ eqs → e.call.size = 0 → findI ns k e.call < 0) (q : Nat) : wNodeTo ns k ws eqs q = wCap (uNodeTo ns k ws eqs q) := by
  induction q with
  | zero => simp [wNodeTo, uNodeTo, wCap]
  | succ q ih =>
    unfold wNodeTo uNodeTo
    cases he : eqs[q]? with
    | none => exact ih
    | some e =>
      simp only
      rw [wEqS_add _ _ _ _ _ (h e (List.mem_of_getElem? he)), ih, wCap_add]

/-- The sizes that a node's equations have in an OK program. -/
def NSmall (n : DNode) : Prop := n.eqs.length ≤ 500 ∧ ∀ e, e ∈ n.eqs → ((codesOf e).length ≤ 500 ∧ ∀ c, c ∈ codesOf e → c.length ≤ 3000) ∧ (e.call.size = 0 → 0 < e.code.length)

/-- The library in block B: the first k nodes of ns, by name; these nodes lie from ⟨b, o⟩ on. -/
def LibAt (w : World) (B b o : Nat) (ns : List DNode) (k : Nat) : Prop :=
  ∃ f, MapF Try.prog 9 (.pointer none) w B k f ∧ (∀ s, findI ns k s < 0 → f s = .pointer none) ∧
    ∀ s (i : Nat), findI ns k s = i → ∃ m, f s = .pointer (some ⟨m, 0, none⟩) ∧ m ≠ B ∧ m < w.heap.size ∧ w.cell? ⟨m, 0, none⟩ = some (.pointer (some ⟨b, o + i * 5, none⟩)) ∧ w.cell? ⟨m, 1, none⟩ = some (.int .i64 ((wsTo ns k).getD i 0))
theorem LibAt.below {w w' : World} {B b o : Nat} {ns : List DNode} {k : Nat} (h : LibAt w B b o ns k) (hb : Below w.heap.size w w') : LibAt w' B b o ns k := by
  obtain ⟨f, h1, h2, h3⟩ := h
  refine ⟨f, h1.below hb, h2, fun s i hi => ?_⟩
  obtain ⟨m, a1, a2, a3, a4, a5⟩ := h3 s i hi
  exact ⟨m, a1, a2, Nat.lt_of_lt_of_le a3 hb.size, by rw [hb.cell (p := ⟨m, 0, none⟩) a3]; exact a4, by rw [hb.cell (p := ⟨m, 1, none⟩) a3]; exact a5⟩

theorem zeroMem (w : World) : (zeroValue 84).run Try.prog w = .ok (.pointer none) w := by kernel_rfl

theorem uEq_le (ns : List DNode) (k : Nat) (e : DEq) (h1 : (codesOf e).length ≤ 500) (h2 : ∀ c, c ∈ codesOf e → c.length ≤ 3000) : uEq ns k (wsTo ns k) e ≤ 5000000 := by
  have h3 := lensTo_le (codesOf e) 3000 h2 (codesOf e).length
  have h4 := innerTo_le (decide (e.call.size = 0)) (codesOf e) (codesOf e).length
  have h5 : (codesOf e).length * 3000 ≤ 500 * 3000 := Nat.mul_le_mul_right _ h1
  have h6 : (if findI ns k e.call < 0 then 0 else ((wsTo ns k).getD (findI ns k e.call).toNat 0).toNat) ≤ 20001 := by
    split
    · omega
    · rename_i hf
      have hb := find_bd ns k e.call
      have hl : (findI ns k e.call).toNat < (wsTo ns k).length := by rw [wsTo_length]; omega
      have e1 : (wsTo ns k).getD (findI ns k e.call).toNat 0 = (wsTo ns k)[(findI ns k e.call).toNat] := by simp [List.getD, hl]
      rw [e1]
      have := wsTo_bd ns k _ (List.getElem_mem hl)
      omega
  unfold uEq innerN
  unfold innerN at *
  omega
theorem uNodeTo_le (ns : List DNode) (k : Nat) (eqs : List DEq) (h : ∀ e, e ∈ eqs → uEq ns k (wsTo ns k) e ≤ 5000000) (q : Nat) : uNodeTo ns k (wsTo ns k) eqs q ≤ 1 + q * 5000000 := by
  have h' : ∀ M, (∀ e, e ∈ eqs → uEq ns k (wsTo ns k) e ≤ M) → uNodeTo ns k (wsTo ns k) eqs q ≤ 1 + q * M := fun M hM => by
    induction q with
    | zero =>
      have : uNodeTo ns k (wsTo ns k) eqs 0 = 1 := rfl
      omega
    | succ q ih =>
      unfold uNodeTo
      rw [Nat.succ_mul]
      cases he : eqs[q]? with
      | none => simp only; omega
      | some e =>
        have := hM e (List.mem_of_getElem? he)
        simp only
        omega
  exact h' 5000000 h

theorem min_cap (n : Nat) : (if (20001 : Int) < (n : Int) then (20001 : Int) else (n : Int)) = ((wCap n : Nat) : Int) := by
  unfold wCap
  split <;> split <;> omega

set_option maxHeartbeats 4000000 in
theorem weigh_ok (ns : List DNode) (k : Nat) (n : DNode) (B b o bn on : Nat) (w : World) (h : At 5 RNode w bn on n) (hL : LibAt w B b o ns k) (hS : NSmall n) (hE : ∀ e, e ∈ n.eqs → e.call.size = 0 → findI ns k e.call < 0) :
    Calls Try.prog 22 #[.map (some B), .pointer (some ⟨bn, on, none⟩)] w (Ans (.int .i64 ((wNodeTo ns k (wsTo ns k) n.eqs n.eqs.length : Nat) : Int)) w) := by
  have hcap := wNodeTo_cap ns k (wsTo ns k) n.eqs hE n.eqs.length
  have hule := uNodeTo_le ns k n.eqs (fun e he => uEq_le ns k e (hS.2 e he).1.1 (hS.2 e he).1.2)
  obtain ⟨nm, ins, outs, vars, eqs⟩ := n
  obtain ⟨hbl, cs, hl, hc, v1, v2, v3, v4, rfl, hs, _, _, _, h4⟩ := h
  simp only at *
  obtain ⟨b4, c4, rfl⟩ := h4.shape
  have k4 := hc 4 (by simp)
  simp only [List.getElem_cons_zero, List.getElem_cons_succ] at k4
  have K4 := hide k4
  have H4 := hide h4
  have n4 := h4.len'
  have HL := hide hL
  have HSM := hide hS.2
  have hn5 := hS.1
  have HULE := hide hule
  have HCAP := hide hcap
  clear h4 hc hs hl hL hS hE hule hcap
  go_enter Try.func22, Try.ntmps22
  go_wp2
  go_loopg [5, 16] eqs.length (fun g n i wr => ∃ (q : Nat), q ≤ eqs.length ∧ g = eqs.length - q ∧ i = .int .i64 q ∧ n = .int .i64 ((uNodeTo ns k (wsTo ns k) eqs q : Nat) : Int) ∧ Below w.heap.size w wr)
  case atStart => exact ⟨0, Nat.zero_le _, by omega, rfl, rfl, Below.refl _ _⟩
  case round =>
    obtain ⟨q, hq, hgq, rfl, rfl, hblq⟩ := hrel
    rename World => wq
    have HGQ := hide hgq
    have HBQ := hide hblq
    have k4q : wq.cell? ⟨bn, on + 4, none⟩ = some (.slice b4 eqs.length c4) := by rw [hblq.cell (p := ⟨bn, on + 4, none⟩) hbl]; exact unhide K4
    clear hgq hblq
    by_cases hlt : q < eqs.length
    · obtain ⟨be, oe, ce, hve, hAt⟩ := (unhide H4).at' q hlt
      simp only [Value.slice.injEq] at hve
      obtain ⟨rfl, _, rfl⟩ := hve
      have HAT := hide (hAt.stays REq_kept (unhide HBQ))
      have hsm := unhide HSM eqs[q] (List.getElem_mem hlt)
      have hub := unhide HULE q
      have hub2 := unhide HULE (q + 1)
      have hue : uNodeTo ns k (wsTo ns k) eqs (q + 1) = uNodeTo ns k (wsTo ns k) eqs q + uEq ns k (wsTo ns k) eqs[q] := by
        rw [uNodeTo, List.getElem?_eq_getElem hlt]
      have huq2 := uEq_le ns k eqs[q] hsm.1.1 hsm.1.2
      have hin : innerN eqs[q] ≤ 1500000 := by
        have h4 := innerTo_le (decide (eqs[q].call.size = 0)) (codesOf eqs[q]) (codesOf eqs[q]).length
        have h3 := lensTo_le (codesOf eqs[q]) 3000 hsm.1.2 (codesOf eqs[q]).length
        have h5 : (codesOf eqs[q]).length * 3000 ≤ 500 * 3000 := Nat.mul_le_mul_right _ hsm.1.1
        unfold innerN
        omega
      have HLEN := hide (fun m => lensTo_le (codesOf eqs[q]) 3000 hsm.1.2 m)
      unfold uEq at hue huq2
      obtain ⟨_, cs, _, hcE, l0, c0, a0, rfl, hcl0, _, _, _⟩ := unhide HAT
      have r2 := hcE 2 (by simp)
      simp only [List.getElem_cons_zero, List.getElem_cons_succ] at r2
      have R2 := hide r2
      have hbE := (unhide HAT).1
      obtain ⟨f, hMF, hM0, hM1⟩ := (unhide HL).below (unhide HBQ)
      have HMF := hide hMF
      have HLK : Hid ((findI ns k eqs[q].call < 0 ∧ f eqs[q].call = .pointer none ∧ uNodeTo ns k (wsTo ns k) eqs (q + 1) = uNodeTo ns k (wsTo ns k) eqs q + (1 + 2 * innerN eqs[q] + lensTo (codesOf eqs[q]) (codesOf eqs[q]).length)) ∨ (∃ (m wn : Nat), f eqs[q].call = .pointer (some ⟨m, 0, none⟩) ∧ m < wq.heap.size ∧ wq.cell? ⟨m, 1, none⟩ = some (.int .i64 (wn : Int)) ∧ wn ≤ 20001 ∧ uNodeTo ns k (wsTo ns k) eqs (q + 1) = uNodeTo ns k (wsTo ns k) eqs q + (1 + 2 * innerN eqs[q] + lensTo (codesOf eqs[q]) (codesOf eqs[q]).length) + wn)) := by
        by_cases hf : findI ns k eqs[q].call < 0
        · refine Or.inl ⟨hf, hM0 _ hf, ?_⟩
          rw [if_pos hf] at hue
          omega
        · have hfb := find_bd ns k eqs[q].call
          obtain ⟨i, hi⟩ := Int.eq_ofNat_of_zero_le (show 0 ≤ findI ns k eqs[q].call by omega)
          obtain ⟨m, g1, g2, g3, g4, g5⟩ := hM1 _ i hi
          have hil : i < (wsTo ns k).length := by rw [wsTo_length]; omega
          have e1 : (wsTo ns k).getD i 0 = (wsTo ns k)[i] := by simp [List.getD, hil]
          have hwb := wsTo_bd ns k _ (List.getElem_mem hil)
          rw [← e1] at hwb
          rw [if_neg hf, hi, Int.toNat_natCast] at hue
          generalize (wsTo ns k).getD i 0 = wi at *
          obtain ⟨wn, rfl⟩ := Int.eq_ofNat_of_zero_le hwb.1
          exact Or.inr ⟨m, wn, g1, g3, g5, by omega, by rw [hue, Int.toNat_natCast]; omega⟩
      have hcl : eqs[q].call.size ≤ maxLen := by unfold Len at hcl0; unfold maxLen; omega
      clear hAt hue hcE r2 hMF hM0 hM1 huq2 hcl0
      generalize eqs[q] = x at *
      generalize uNodeTo ns k (wsTo ns k) eqs q = u0 at *
      have hu0 : u0 ≤ 2500000001 := by omega
      clear hub hub2
      have HIN := hide (innerFbys_ok x be (oe + q * 4) wq (unhide HAT) hsm.1.2 hsm.1.1 hsm.2)
      have HEXP := hide (fun w1 (h : Below wq.heap.size wq w1) => expressions_ok x be (oe + q * 4) w1 ((unhide HAT).stays REq_kept h))
      have hcn := hsm.1.1
      generalize innerN x = inn at *
      generalize codesOf x = cds at *
      clear hsm HAT
      have hlt' : (q : Int) < (eqs.length : Int) := by omega
      go_wp2_with fail
      refine (unhide HIN).mono ?_
      rintro e w1 ⟨rfl, hb1⟩
      have B1 := hide hb1
      clear hb1
      go_wp2_with fail
      refine (unhide HEXP _ (unhide B1)).mono ?_
      rintro e w2 ⟨vc, rfl, hVC, hb2⟩
      have B2 : Hid (Below wq.heap.size wq w2) := (unhide B1).trans (hb2.mono (unhide B1).size)
      obtain ⟨bv, cv, rfl⟩ := hVC.shape
      obtain ⟨_, _, hvv, _, hvn, hvx⟩ := hVC
      simp only [Value.slice.injEq] at hvv
      obtain ⟨rfl, _, rfl⟩ := hvv
      have HVX := hide hvx
      have r2 : w2.cell? ⟨be, oe + q * 4 + 2, none⟩ = some (.string x.call) := by rw [(unhide B2).cell (p := ⟨be, _, none⟩) hbE]; exact unhide R2
      have HMF2 := hide ((unhide HMF).below (unhide B2))
      clear hvx hb2 R2 hvn
      go_wp2
      go_loopg [5, 34] cds.length (fun g n i wr => ∃ (m : Nat), m ≤ cds.length ∧ g = cds.length - m ∧ i = .int .i64 m ∧ n = .int .i64 ((u0 + (1 + 2 * inn) + lensTo cds m : Nat) : Int) ∧ wr = w2)
      case atStart => exact ⟨0, Nat.zero_le _, by omega, rfl, int_eq (by simp [lensTo]), rfl⟩
      case round =>
        obtain ⟨m, hm, hgm, rfl, rfl, hw9⟩ := hrel
        obtain rfl := hw9.symm
        have HGM := hide hgm
        have hlb := unhide HLEN m
        have hlb2 : m * 3000 ≤ 500 * 3000 := Nat.mul_le_mul_right _ (by omega)
        clear hgm
        by_cases hltm : m < cds.length
        · obtain ⟨ba, oa, csa, hbo, _, hba, hcsa, hca, hRa⟩ := unhide HVX m hltm
          subst hbo
          obtain ⟨va, rfl, hE⟩ := hRa
          obtain ⟨bx, cx, rfl⟩ := hE.shape
          have r0 := hca 0 (by simp)
          simp only [Nat.mul_one, Nat.add_zero, List.getElem_cons_zero, List.getElem_cons_succ] at r0
          have nE := hE.len'
          have SM : lensTo cds (m + 1) = lensTo cds m + cds[m].length := by
            rw [lensTo, List.getElem?_eq_getElem hltm]
          have HSM2 := hide SM
          have hlb3 := unhide HLEN (m + 1)
          have hlb4 : (m + 1) * 3000 ≤ 500 * 3000 := Nat.mul_le_mul_right _ (by omega)
          have hsz : u0 + (1 + 2 * inn) + lensTo cds m + cds[m].length ≤ 3000000000 := by rw [SM] at hlb3; omega
          clear SM hca hcsa hE hlb hlb2 hlb3 hlb4
          generalize cds[m] = el at *
          generalize lensTo cds m = lm at *
          have hltm' : (m : Int) < (cds.length : Int) := by omega
          go_wp2
          go_roundg (cds.length - (m + 1))
          case measure => have := unhide HGM; omega
          case rel => exact ⟨m + 1, by omega, rfl, by go_num, int_eq (by rw [unhide HSM2]; omega), rfl⟩
        · have e : m = cds.length := by omega
          subst e
          generalize lensTo cds cds.length = lt at *
          have hsz : u0 + (1 + 2 * inn) + lt ≤ 2600000000 := by omega
          rcases unhide HLK with ⟨hf, hfn, hu1⟩ | ⟨mm, wn, hfn, hmm, hmc, hwn, hu1⟩
          · have hlk := (unhide HMF2).look (t := 60) Try.underlying9 Try.underlying60 (zeroMem _) hcl
            rw [hfn] at hlk
            have HU1 := hide hu1
            clear hu1 hfn hf hlb hlb2
            go_wp2
            go_roundg (eqs.length - (q + 1))
            case measure => have := unhide HGQ; omega
            case rel => exact ⟨q + 1, by omega, rfl, by go_num, int_eq (by rw [unhide HU1]; omega), (unhide HBQ).trans ((unhide B2).mono (unhide HBQ).size)⟩
          · have hlk := (unhide HMF2).look (t := 60) Try.underlying9 Try.underlying60 (zeroMem _) hcl
            rw [hfn] at hlk
            have hmc2 : w2.cell? ⟨mm, 1, none⟩ = some (.int .i64 (wn : Int)) := by rw [(unhide B2).cell (p := ⟨mm, 1, none⟩) hmm]; exact hmc
            have HU1 := hide hu1
            clear hu1 hfn hmc hlb hlb2
            go_wp2
            go_roundg (eqs.length - (q + 1))
            case measure => have := unhide HGQ; omega
            case rel => exact ⟨q + 1, by omega, rfl, by go_num, int_eq (by rw [unhide HU1]; omega), (unhide HBQ).trans ((unhide B2).mono (unhide HBQ).size)⟩
    · have e : q = eqs.length := by omega
      subst e
      have hub := unhide HULE eqs.length
      have HCP := hide (min_cap (uNodeTo ns k (wsTo ns k) eqs eqs.length))
      generalize uNodeTo ns k (wsTo ns k) eqs eqs.length = u0 at *
      go_wp2
      · have hx : wCap u0 = 20001 := by
          unfold wCap
          rw [if_pos (by omega)]
        have HX := hide hx
        clear hx
        go_ret
        exact ⟨ret_int (by rw [unhide HCAP, unhide HX]; rfl), unhide HBQ⟩
      · have hx : wCap u0 = u0 := by
          unfold wCap
          split <;> omega
        have HX := hide hx
        clear hx
        go_ret
        exact ⟨ret_int (by rw [unhide HCAP, unhide HX]), unhide HBQ⟩

end Go.Proofs.Ytnfgcklppaknbaa
