import Derived.Test.YtlgeioedgaajoaaGreatDoorTI8
import Derived.Test.YtlgeioedgaajoaaGreatDoorImplC
namespace Go.Proofs.YtlgeioedgaajoaaGreatDoor
open Go.RowKit
set_option linter.unusedSimpArgs false
set_option linter.unusedVariables false

/-- What Print answers. -/
def ptT (ns : List DNode) : ByteArray := if shapeB ns = true then prT ns else ⟨#[]⟩

theorem st_start (w : World) : St w w.heap.size ByteArray.empty (w.alloc (.cells #[.pointer none, .slice none 0 0] 51)) := by
  refine ⟨(Below.refl _ _).alloc (Nat.le_refl _) _, .inl ⟨Nat.le_refl _, .slice none 0 0, blk_box _ _ _, ⟨rfl, .inl ⟨rfl, rfl⟩⟩, ?_⟩⟩
  intro h
  cases h

set_option maxRecDepth 20000 in
set_option maxHeartbeats 4000000 in
theorem implPrint_ok (ns : List DNode) (v : Value) (w : World) (hE : Env w) (hv : SlAt 5 112 RNode 0 w v ns) :
    Calls Tryz.prog 7 #[.agg #[v]] w (Ans (.string (ptT ns)) w) := by
  have HV := hide hv
  obtain ⟨a, cap, rfl⟩ := hv.shape
  have hn := hv.len
  have P0 := hide ((Below.refl w.heap.size w).alloc (Nat.le_refl _) (.cells #[.slice a ns.length cap] 29))
  have HC1 := hide (implShape_ok ns _ (w.alloc (.cells #[.slice a ns.length cap] 29)) (hv.stays RNode_kept (unhide P0)))
  have HE := hide hE
  clear hv hE
  by_cases hsh : shapeB ns = true
  · have HPT : Hid (ptT ns = prT ns) := by
      show ptT ns = prT ns
      unfold ptT
      rw [if_pos hsh]
    have HPZ := hide (fun k hk => prT_size hsh k hk)
    have HN : Hid (∀ n, n ∈ ns → nodeB n = true) := by
      have := hsh
      simp only [shapeB, Bool.and_eq_true, decide_eq_true_iff, List.all_eq_true] at this
      exact this.2
    rw [hsh] at HC1
    clear hsh
    go_enter Tryz.func7, Tryz.ntmps7
    go_wp2_with fail
    refine (unhide HC1).mono ?_
    rintro e w1 ⟨rfl, hb1⟩
    have kp : w1.cell? ⟨w.heap.size, 0, none⟩ = some (.slice a ns.length cap) := by rw [box_cell (B := 0) (box_of hb1) 0]; rfl
    have HB1 : Hid (Below w.heap.size w w1) := (unhide P0).trans (hb1.mono (unhide P0).size)
    have hs1 : w.heap.size < w1.heap.size := by have := (box_of hb1).size; simp at this; omega
    have HV1 := hide ((unhide HV).stays RNode_kept (unhide HB1))
    have HE1 := hide ((unhide HE).below (unhide HB1) (unhide HE).three)
    have HST1 := hide (st_start w1)
    clear hb1 HC1
    go_wp2
    go_loopg [12] ns.length (fun g i wr => ∃ (k : Nat), k ≤ ns.length ∧ g = ns.length - k ∧ i = .int .i64 k ∧ St w1 w1.heap.size (catTo ndT ns k) wr)
    case atStart => exact ⟨0, Nat.zero_le _, by omega, rfl, by rw [catTo_zero]; exact unhide HST1⟩
    case round =>
      obtain ⟨k, hk, hg, rfl, hst⟩ := hrel
      rename World => wN
      have HG := hide hg
      have HST := hide hst
      have hz := unhide HPZ k hk
      clear hg hst
      by_cases hlt : k < ns.length
      · obtain ⟨b, o, cs, hbo, _, hb, hcs, hc0, hR⟩ := (unhide HV1).el k hlt
        subst hbo
        have hc : ∀ j (hj : j < cs.length), wN.cell? ⟨b, o + k * 5 + j, none⟩ = some cs[j] := fun j hj => by rw [(unhide HST).old.cell (p := ⟨b, _, none⟩) hb]; exact hc0 j hj
        have hnb := unhide HN ns[k] (List.getElem_mem hlt)
        have HC2 : Hid (∀ w', St w1 w1.heap.size (catTo ndT ns k) w' → _) := fun w' h => writeNode_ok w1 w1.heap.size (unhide HE1) ns[k] hnb cs hR w' _ h (by omega)
        obtain ⟨vi, vo, vv, ve, rfl, hnl, hins, houts, hvars, heqs⟩ := hR
        have c0 := hc 0 (by simp)
        have c1 := hc 1 (by simp)
        have c2 := hc 2 (by simp)
        have c3 := hc 3 (by simp)
        have c4 := hc 4 (by simp)
        simp only [Nat.mul_one, Nat.add_zero, List.getElem_cons_zero, List.getElem_cons_succ] at c0 c1 c2 c3 c4
        have HT := hide (catTo_succ ndT ns k hlt)
        obtain ⟨ia, ic, rfl⟩ := hins.shape
        obtain ⟨oa, oc, rfl⟩ := houts.shape
        obtain ⟨va, vc, rfl⟩ := hvars.shape
        obtain ⟨ea, ec, rfl⟩ := heqs.shape
        have P1 : Hid (Below wN.heap.size wN (wN.alloc (.cells #[.string ns[k].name, .slice ia ns[k].ins.length ic, .slice oa ns[k].outs.length oc, .slice va ns[k].vars.length vc, .slice ea ns[k].eqs.length ec] 38))) := (Below.refl _ _).alloc (Nat.le_refl _) _
        have HC3 := hide (unhide HC2 _ ((unhide HST).on (unhide P1)))
        clear hc hc0 hcs hnb HC2 hnl hins houts hvars heqs
        generalize catTo ndT ns k = tk at *
        generalize ndT ns[k] = tn at *
        generalize ns[k].ins.length = n1 at *
        generalize ns[k].outs.length = n2 at *
        generalize ns[k].vars.length = n3 at *
        generalize ns[k].eqs.length = n4 at *
        generalize ns[k].name = nm at *
        go_wp2_with fail
        refine (unhide HC3).mono ?_
        rintro e w3 ⟨rfl, hst3, hk3⟩
        go_wp2
        go_roundg (ns.length - (k + 1))
        case measure => have := unhide HG; omega
        case rel => exact ⟨k + 1, by omega, rfl, by go_num, by rw [unhide HT]; exact hst3⟩
      · have e : k = ns.length := by omega
        subst e
        have hold := (unhide HST).old
        have HC4 := hide (Tryz.Builder_String_any_k w1.heap.size w1.heap.size (catTo ndT ns ns.length).data.toList wN (unhide HST).bld hold.size)
        have HR : Hid ((⟨(catTo ndT ns ns.length).data.toList.toArray⟩ : ByteArray) = ptT ns) := by
          show (⟨(catTo ndT ns ns.length).data.toList.toArray⟩ : ByteArray) = ptT ns
          rw [unhide HPT]
          rfl
        have HO := hide hold
        clear hold
        generalize catTo ndT ns ns.length = ct at *
        go_wp2_with fail
        refine (unhide HC4).mono ?_
        rintro e w3 ⟨rfl, _, hb3, _⟩
        rw [unhide HR]
        go_wp2
        go_ret
        exact ⟨rfl, (unhide HB1).trans (((unhide HO).trans hb3).mono (by omega))⟩
  · have HPT : Hid (ptT ns = ⟨#[]⟩) := by
      show ptT ns = ⟨#[]⟩
      unfold ptT
      rw [if_neg hsh]
    have hsf : shapeB ns = false := by simpa using hsh
    rw [hsf] at HC1
    clear hsf hsh
    go_enter Tryz.func7, Tryz.ntmps7
    go_wp2_with fail
    refine (unhide HC1).mono ?_
    rintro e w1 ⟨rfl, hb1⟩
    have HB1 : Hid (Below w.heap.size w w1) := (unhide P0).trans (hb1.mono (unhide P0).size)
    clear hb1 HC1
    go_wp2
    go_ret
    exact ⟨ret_str (unhide HPT).symm, unhide HB1⟩

theorem specPrint_all (ns : List DNode) (v : Value) (w : World) (hv : SlAt 5 112 RNode 0 w v ns) (hsm : ∀ n, n ∈ ns → n.ins.length + n.outs.length + n.vars.length ≤ 1048576) :
    Calls Tryz.prog 5 #[.agg #[v]] w (Ans (.string (ptT ns)) w) := by
  by_cases hsh : shapeB ns = true
  · unfold ptT
    rw [if_pos hsh]
    exact specPrint_ok ns v w hv hsm hsh
  · have HPT : Hid (ptT ns = ⟨#[]⟩) := by
      show ptT ns = ⟨#[]⟩
      unfold ptT
      rw [if_neg hsh]
    have P0 := hide ((Below.refl w.heap.size w).alloc (Nat.le_refl _) (.cells #[v] 29))
    have HC1 := specShape_ok ns v (w.alloc (.cells #[v] 29)) (hv.stays RNode_kept (unhide P0)) hsm
    have hsf : shapeB ns = false := by simpa using hsh
    rw [hsf] at HC1
    have HC1 := hide HC1
    obtain ⟨a, cap, rfl⟩ := hv.shape
    clear hsf hsh hv
    go_enter Tryz.func5, Tryz.ntmps5
    go_wp2_with fail
    refine (unhide HC1).mono ?_
    rintro e w1 ⟨rfl, hb1⟩
    have HB1 : Hid (Below w.heap.size w w1) := (unhide P0).trans (hb1.mono (unhide P0).size)
    clear hb1 HC1
    go_wp2
    go_ret
    exact ⟨ret_str (unhide HPT).symm, unhide HB1⟩

end Go.Proofs.YtlgeioedgaajoaaGreatDoor
