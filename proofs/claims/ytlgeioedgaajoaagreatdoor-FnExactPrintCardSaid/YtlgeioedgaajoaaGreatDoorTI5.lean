import Derived.Test.YtlgeioedgaajoaaGreatDoorTI4
import Derived.Test.YtlgeioedgaajoaaGreatDoorTS8
namespace Go.Proofs.YtlgeioedgaajoaaGreatDoor
open Go.RowKit
set_option linter.unusedSimpArgs false
set_option linter.unusedVariables false

set_option maxHeartbeats 1000000 in
theorem writeCode_ok (w0 : World) (b : Nat) (hE : Env w0) (xs : List DItem) (v : Value) (hv : SlAt 3 32 RItem 0 w0 v xs) (hcd : cdB xs = true) (w : World) (s : ByteArray) (hst : St w0 b s w) (hsz : s.size ≤ 100000000000000) :
    Calls Tryz.prog 53 #[.pointer (some ⟨b, 0, none⟩), v] w fun e w' => e = .returned (.tuple #[]) ∧ St w0 b (s ++ cdT xs) w' ∧ BKeeps b w w' := by
  have hl := cd_len hcd
  have hwk : wk xs 0 = true := by simp only [cdB, Bool.and_eq_true] at hcd; exact hcd.2
  have hz := cdT_size hcd
  have HC1 := hide (beginnings_ok xs v w (hv.stays RItem_kept hst.old) hwk hl.2)
  have HC2 : Hid (∀ g w1, St w0 b s w1 → Begs w1 g xs → Calls Tryz.prog 78 #[.pointer (some ⟨b, 0, none⟩), v, .slice (some ⟨g, 0, none⟩) xs.length xs.length, .int .i64 ((xs.length : Int) - 1)] w1 fun e w' => e = .returned (.tuple #[]) ∧ St w0 b (s ++ cdT xs) w' ∧ BKeeps b w1 w') := by
    intro g w1 h1 h2
    have hc := cdT_ch hcd
    obtain ⟨l, hll⟩ : ∃ l, xs.length = l + 1 := ⟨xs.length - 1, by omega⟩
    have e1 : ((xs.length : Int) - 1) = (l : Nat) := by omega
    rw [e1]
    rw [hll] at hc
    exact writePart_ok w0 b hE xs v hv (cd_it hcd) hl.2 g l 0 (cdT xs) w1 s hc h1 h2 (by omega)
  have HST := hide hst
  obtain ⟨a, cap, rfl⟩ := hv.shape
  clear hv hst hcd hwk
  go_enter Tryz.func53, Tryz.ntmps53
  go_wp2_with fail
  refine (unhide HC1).mono ?_
  rintro e w1 ⟨g, rfl, hg, hbg, hb1⟩
  have HB1 := hide hb1
  have HC3 := hide (unhide HC2 g w1 ((unhide HST).on hb1) hbg)
  clear hb1 hbg HC2 HC1
  go_wp2_with fail
  refine (unhide HC3).mono ?_
  rintro e w2 ⟨rfl, hst2, hk2⟩
  go_wp2
  go_end0
  exact ⟨rfl, hst2, (kept_below (unhide HB1)).trans hk2⟩

theorem cd_args {e : DEq} (he : eqB e = true) (h0 : ¬ e.call.size = 0) : ∀ x, x ∈ e.args.map cdT → x.size ≤ 1000000 := fun x hx => by
  obtain ⟨y, hy, rfl⟩ := List.mem_map.1 hx
  have := cdT_size ((eq_call he h0).2 y hy)
  omega

set_option maxHeartbeats 2000000 in
theorem writeCall_ok (w0 : World) (b : Nat) (hE : Env w0) (e : DEq) (he : eqB e = true) (h0 : ¬ e.call.size = 0) (la ca : Option Addr) (ln lc cn cc : Nat) (v : Value) (ha : SlAt 1 24 RItems 0 w0 v e.args)
    (w : World) (s : ByteArray) (hst : St w0 b s w) (hsz : s.size ≤ 90000000000000) :
    Calls Tryz.prog 54 #[.pointer (some ⟨b, 0, none⟩), .agg #[.slice la ln lc, .slice ca cn cc, .string e.call, v]] w fun r w' => r = .returned (.tuple #[]) ∧ St w0 b (s ++ (e.call ++ (Lop ++ (jnT Lcomma (e.args.map cdT) ++ Lcl)))) w' ∧ BKeeps b w w' := by
  have hla := ((eq_iff e).1 he).1.2.2
  have HCD := hide (eq_call he h0).2
  have HJ := hide (jn_small Lcomma (e.args.map cdT) (by decide) (cd_args he h0) (by rw [List.length_map]; omega))
  have hnm := name_size _ (eq_call he h0).1
  have HJ1 := hide (fun k hk hk1 => jnT_step Lcomma (e.args.map cdT) k hk hk1)
  have HJ0 : Hid (∀ (h : 0 < (e.args.map cdT).length), jnT Lcomma ((e.args.map cdT).take 1) = (e.args.map cdT)[0]) := fun h => by
    rw [List.take_succ_eq_append_getElem h, List.take_zero, List.nil_append, jnT_one]
  have HJE : Hid (jnT Lcomma ((e.args.map cdT).take e.args.length) = jnT Lcomma (e.args.map cdT)) := by
    show jnT Lcomma ((e.args.map cdT).take e.args.length) = jnT Lcomma (e.args.map cdT)
    rw [List.take_of_length_le (by simp)]
  have HJZ : Hid (jnT Lcomma ((e.args.map cdT).take 0) = ByteArray.empty) := by
    show jnT Lcomma ((e.args.map cdT).take 0) = ByteArray.empty
    rw [List.take_zero, jnT_nil]
  have hJL : (e.args.map cdT).length = e.args.length := List.length_map ..
  have hge : ∀ k (h : k < e.args.length), (e.args.map cdT)[k]'(by rw [hJL]; exact h) = cdT e.args[k] := fun k h => by simp
  have HGE := hide hge
  obtain ⟨aa, ac, rfl, _, hn, hx⟩ := ha
  unfold Len at hn
  have HX := hide hx
  have P0 : Hid (Below w.heap.size w (w.alloc (.cells #[.slice la ln lc, .slice ca cn cc, .string e.call, .slice aa e.args.length ac] 45))) := (Below.refl _ _).alloc (Nat.le_refl _) _
  have HBX := hide (blk_box w #[.slice la ln lc, .slice ca cn cc, .string e.call, .slice aa e.args.length ac] 45)
  have HST0 := hide (hst.on (unhide P0))
  have zop : Lop.size = 1 := rfl
  have zcl : Lcl.size = 1 := rfl
  have zco : Lcomma.size = 2 := rfl
  have HC1 := hide (writeString_ok (e.call ++ Lop) (unhide HST0) (by rw [ba_size]; omega))
  have HRS : Hid (s ++ (e.call ++ (Lop ++ (jnT Lcomma (e.args.map cdT) ++ Lcl))) = s ++ (e.call ++ Lop) ++ jnT Lcomma (e.args.map cdT) ++ Lcl) := by
    show s ++ (e.call ++ (Lop ++ (jnT Lcomma (e.args.map cdT) ++ Lcl))) = s ++ (e.call ++ Lop) ++ jnT Lcomma (e.args.map cdT) ++ Lcl
    simp only [ba_assoc]
  have hS0 : (s ++ (e.call ++ Lop)).size ≤ 90000000000100 := by simp only [ba_size]; omega
  clear hx hge hst he h0
  generalize e.call = call at *
  generalize hags : e.args = args at *
  clear hags
  generalize args.map cdT = ys at *
  rw [unhide HRS]
  clear HRS
  go_enter Tryz.func54, Tryz.ntmps54
  go_wp2_with fail
  refine (unhide HC1).mono ?_
  rintro r w1 ⟨rfl, hst1, hk1⟩
  have HST1 := hide hst1
  have HK1 := hide hk1
  have cA := ((unhide HBX).kept (unhide HST0) hk1 (by decide)).cell (i := 3) (v := .slice aa args.length ac) rfl
  clear hst1 hk1 HC1
  generalize hSQ : s ++ (call ++ Lop) = S at *
  have HSQ := hide hSQ
  clear hSQ
  go_wp2
  go_loopg [14] args.length (fun g i wr => ∃ (k : Nat), k ≤ args.length ∧ g = args.length - k ∧ i = .int .i64 k ∧ St w0 b (S ++ jnT Lcomma (ys.take k)) wr ∧ BKeeps b w1 wr)
  case atStart => exact ⟨0, Nat.zero_le _, by omega, rfl, by rw [unhide HJZ, ba_nil]; exact unhide HST1, Lib.OthersKept.refl _ _ _⟩
  case round =>
    obtain ⟨k, hk, hg, rfl, hstk, hkk⟩ := hrel
    rename World => wK
    have HG := hide hg
    have HSTK := hide hstk
    have HKK := hide hkk
    clear hg hstk hkk
    have hzk := unhide HJ k
    by_cases hlt : k < args.length
    · obtain ⟨bb, oo, cs, rfl, _, hbb, hcs, hc0, hR⟩ := unhide HX k hlt
      have hc : ∀ j (hj : j < cs.length), wK.cell? ⟨bb, oo + k * 1 + j, none⟩ = some cs[j] := fun j hj => by rw [(unhide HSTK).old.cell (p := ⟨bb, _, none⟩) hbb]; exact hc0 j hj
      obtain ⟨vv, rfl, hS⟩ := hR
      have c0 := hc 0 (by simp)
      simp only [Nat.mul_one, Nat.add_zero, List.getElem_cons_zero, List.getElem_cons_succ] at c0
      have hcd := unhide HCD args[k] (List.getElem_mem hlt)
      have hzc := cdT_size hcd
      have HCC : Hid (∀ w2 s2, St w0 b s2 w2 → s2.size ≤ 100000000000000 → Calls Tryz.prog 53 #[.pointer (some ⟨b, 0, none⟩), vv] w2 fun e w' => e = .returned (.tuple #[]) ∧ St w0 b (s2 ++ cdT args[k]) w' ∧ BKeeps b w2 w') := fun w2 s2 h1 h2 => writeCode_ok w0 b hE args[k] vv hS hcd w2 s2 h1 h2
      have hek := unhide HGE k hlt
      by_cases hk0 : k = 0
      · subst hk0
        have HT := hide (unhide HJ0 (by rw [hJL]; exact hlt))
        rw [hek] at HT
        have HC2 := hide (unhide HCC wK _ (unhide HSTK) (by rw [ba_size]; omega))
        rw [unhide HJZ, ba_nil] at HC2
        obtain ⟨xa, xc, rfl⟩ := hS.shape
        clear hc hc0 hcs hS hcd hek HCC
        generalize cdT args[0] = tx at *
        generalize args[0].length = nx at *
        simp only [Nat.add_zero, Nat.zero_mul] at c0
        go_wp2_with fail
        refine (unhide HC2).mono ?_
        rintro r w3 ⟨rfl, hst3, hk3⟩
        go_wp2
        go_roundg (args.length - 1)
        case measure => have := unhide HG; omega
        case rel => exact ⟨1, by omega, rfl, by go_num, by rw [unhide HT]; exact hst3, (unhide HKK).trans hk3⟩
      · have HT := hide (unhide HJ1 k (by rw [hJL]; exact hlt) (by omega))
        rw [hek] at HT
        have HC2 := hide (writeString_ok Lcomma (unhide HSTK) (by rw [ba_size]; omega))
        have HC3 : Hid (∀ w2, St w0 b (S ++ jnT Lcomma (ys.take k) ++ Lcomma) w2 → _) := fun w2 h => unhide HCC w2 _ h (by simp only [ba_size]; omega)
        have HAS : Hid (S ++ jnT Lcomma (ys.take (k + 1)) = S ++ jnT Lcomma (ys.take k) ++ Lcomma ++ cdT args[k]) := by
          show S ++ jnT Lcomma (ys.take (k + 1)) = S ++ jnT Lcomma (ys.take k) ++ Lcomma ++ cdT args[k]
          rw [unhide HT]
          simp only [ba_assoc]
        obtain ⟨xa, xc, rfl⟩ := hS.shape
        clear hc hc0 hcs hS hcd hek HCC HT
        generalize cdT args[k] = tx at *
        generalize args[k].length = nx at *
        generalize jnT Lcomma (ys.take k) = jk at *
        go_wp2_with fail
        refine (unhide HC2).mono ?_
        rintro r w3 ⟨rfl, hst3, hk3⟩
        have HK3 := hide hk3
        have HC4 := hide (unhide HC3 w3 hst3)
        clear hst3 hk3
        go_wp2_with fail
        refine (unhide HC4).mono ?_
        rintro r w4 ⟨rfl, hst4, hk4⟩
        go_wp2
        go_roundg (args.length - (k + 1))
        case measure => have := unhide HG; omega
        case rel => exact ⟨k + 1, by omega, rfl, by go_num, by rw [unhide HAS]; exact hst4, ((unhide HKK).trans (unhide HK3)).trans hk4⟩
    · have e : k = args.length := by omega
      subst e
      rw [unhide HJE] at HSTK hzk
      have HC2 := hide (writeString_ok Lcl (unhide HSTK) (by rw [ba_size]; omega))
      generalize hJQ : jnT Lcomma ys = jk at *
      have HJQ := hide hJQ
      clear hJQ
      go_wp2_with fail
      refine (unhide HC2).mono ?_
      rintro r w3 ⟨rfl, hst3, hk3⟩
      go_wp2
      go_end0
      exact ⟨rfl, by rw [unhide HSQ, unhide HJQ]; exact hst3, (((kept_below (unhide P0)).trans (unhide HK1)).trans (unhide HKK)).trans hk3⟩

end Go.Proofs.YtlgeioedgaajoaaGreatDoor
