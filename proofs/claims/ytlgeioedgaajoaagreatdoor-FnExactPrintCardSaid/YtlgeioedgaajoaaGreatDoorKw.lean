import Derived.Test.YtlgeioedgaajoaaGreatDoorChars
import Derived.Test.YtlgeioedgaajoaaGreatDoorFill
namespace Go.Proofs.YtlgeioedgaajoaaGreatDoor
open Go.RowKit
set_option linter.unusedSimpArgs false
set_option linter.unusedVariables false

def kws : List ByteArray := [⟨#[110, 111, 100, 101]⟩, ⟨#[114, 101, 116, 117, 114, 110, 115]⟩, ⟨#[118, 97, 114]⟩, ⟨#[108, 101, 116]⟩, ⟨#[116, 101, 108]⟩, ⟨#[105, 110, 116]⟩, ⟨#[98, 111, 111, 108]⟩, ⟨#[119, 104, 101, 110]⟩, ⟨#[119, 104, 101, 110, 111, 116]⟩, ⟨#[105, 102]⟩, ⟨#[116, 104, 101, 110]⟩, ⟨#[101, 108, 115, 101]⟩, ⟨#[102, 98, 121]⟩, ⟨#[109, 101, 114, 103, 101]⟩, ⟨#[116, 114, 117, 101]⟩, ⟨#[102, 97, 108, 115, 101]⟩, ⟨#[97, 110, 100]⟩, ⟨#[111, 114]⟩, ⟨#[120, 111, 114]⟩, ⟨#[110, 111, 116]⟩, ⟨#[109, 111, 100]⟩]
def kwB (s : ByteArray) : Bool := s.toList == [110, 111, 100, 101] || s.toList == [114, 101, 116, 117, 114, 110, 115] || s.toList == [118, 97, 114] || s.toList == [108, 101, 116] || s.toList == [116, 101, 108] || s.toList == [105, 110, 116] || s.toList == [98, 111, 111, 108] || s.toList == [119, 104, 101, 110] || s.toList == [119, 104, 101, 110, 111, 116] || s.toList == [105, 102] || s.toList == [116, 104, 101, 110] || s.toList == [101, 108, 115, 101] || s.toList == [102, 98, 121] || s.toList == [109, 101, 114, 103, 101] || s.toList == [116, 114, 117, 101] || s.toList == [102, 97, 108, 115, 101] || s.toList == [97, 110, 100] || s.toList == [111, 114] || s.toList == [120, 111, 114] || s.toList == [110, 111, 116] || s.toList == [109, 111, 100]

def inB (l : List ByteArray) (s : ByteArray) : Bool := l.any (fun x => x.toList == s.toList)

theorem kws_small : ∀ x, x ∈ kws → x.size ≤ 7 := by decide

set_option maxHeartbeats 1000000 in
theorem l1Keywords_ok (w : World) :
    Calls Tryz.prog 61 #[] w fun e w' => ∃ v, e = .returned v ∧ SlAt 1 16 RStr w.heap.size w' v kws ∧ Below w.heap.size w w' := by
  go_enter Tryz.func61, Tryz.ntmps61
  go_wp2
  go_ret
  refine ⟨_, rfl, ?_, (Below.refl _ _).alloc (Nat.le_refl _) _⟩
  refine ⟨_, _, rfl, by simp [Len, kws], by simp [Len, kws], fun i hi => ⟨_, _, [.string kws[i]], rfl, Nat.le_refl _, by simp, rfl, ?_, rfl, ?_⟩⟩
  · intro j hj
    have hj0 : j = 0 := by simpa using hj
    subst hj0
    have hc : ∀ (i : Nat) (hi : i < kws.length), (kws.map Value.string).toArray[i]? = some (.string kws[i]) := by
      intro i hi
      simp [hi]
    rw [World.cell?_alloc_at _ _ _ _ rfl]
    simp only [Nat.zero_add, Nat.mul_one, Nat.add_zero]
    exact hc i hi
  · have := kws_small kws[i] (List.getElem_mem hi)
    unfold Len
    omega

set_option maxHeartbeats 1000000 in
theorem isKeyword_ok (s : ByteArray) (w : World) :
    Calls Tryz.prog 91 #[.string s] w fun e w' => e = .returned (.bool (kwB s)) ∧ w' = w := by
  go_enter Tryz.func91, Tryz.ntmps91
  go_wp2
  all_goals
    go_ret
    refine ⟨ret_bool ?_, rfl⟩
    simp_all [kwB]

set_option maxHeartbeats 400000 in
theorem l1In_ok (l : List ByteArray) (v : Value) (s : ByteArray) (w : World) (hv : SlAt 1 16 RStr 0 w v l) :
    Calls Tryz.prog 60 #[v, .string s] w fun e w' => e = .returned (.bool (inB l s)) ∧ w' = w := by
  obtain ⟨a, cap, rfl, _, hn, hx⟩ := hv
  unfold Len at hn
  have HX := hide hx
  clear hx
  go_enter Tryz.func60, Tryz.ntmps60
  go_wp2
  go_loopg [6, 9] l.length (fun g x i wr => ∃ (k : Nat), k ≤ l.length ∧ g = l.length - k ∧ i = .int .i64 k ∧ wr = w ∧ ∀ j (h : j < l.length), j < k → (l[j].toList == s.toList) = false)
  case atStart => exact ⟨0, by omega, by omega, rfl, rfl, fun j _ h2 => by omega⟩
  case round =>
    obtain ⟨k, hk, hg, rfl, rfl, hall⟩ := hrel
    have HG := hide hg
    have HA := hide hall
    clear hg hall
    by_cases hlt : k < l.length
    · obtain ⟨b, o, cs, rfl, _, hb, hcs, hc, hR⟩ := unhide HX k hlt
      obtain ⟨rfl, hsn⟩ := hR
      have c0 := hc 0 (by simp)
      simp only [Nat.mul_one, Nat.add_zero, List.getElem_cons_zero, List.getElem_cons_succ] at c0
      clear hc hcs
      cases he : (l[k].toList == s.toList)
      · have A' : ∀ j (h : j < l.length), j < k + 1 → (l[j].toList == s.toList) = false := by
          intro j h h1
          by_cases e : j = k
          · subst e; exact he
          · exact unhide HA j h (by omega)
        have HA' := hide A'
        clear A'
        go_wp2
        go_roundg (l.length - (k + 1))
        case measure => have := unhide HG; omega
        case rel => exact ⟨k + 1, by omega, rfl, by go_num, rfl, unhide HA'⟩
      · have T : inB l s = true := by
          unfold inB
          rw [List.any_eq_true]
          exact ⟨l[k], List.getElem_mem hlt, he⟩
        have HT := hide T
        clear T
        go_wp2
        go_ret
        exact ⟨ret_bool (unhide HT).symm, rfl⟩
    · have e : k = l.length := by omega
      have T : inB l s = false := by
        unfold inB
        rw [List.any_eq_false]
        intro x hx
        obtain ⟨j, hj, rfl⟩ := List.getElem_of_mem hx
        rw [unhide HA j hj (by omega)]
        decide
      have HT := hide T
      clear T
      go_wp2
      go_ret
      exact ⟨ret_bool (unhide HT).symm, rfl⟩

theorem inB_kws (s : ByteArray) : inB kws s = kwB s := by
  simp only [inB, kws, kwB, List.any_cons, List.any_nil, ByteArray.toList_eq, Bool.or_false, BEq.comm (a := s.data.toList), Bool.or_assoc]

end Go.Proofs.YtlgeioedgaajoaaGreatDoor
