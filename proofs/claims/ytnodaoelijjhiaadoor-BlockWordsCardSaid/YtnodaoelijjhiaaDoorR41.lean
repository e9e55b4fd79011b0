/- Contracts of layer 4's reference (blocks): Parse. -/
import Derived.Test.YtnodaoelijjhiaaDoorR40
set_option linter.unusedVariables false
set_option linter.unusedSimpArgs false
namespace Go.Proofs.YtnodaoelijjhiaaDoor
open Go.ChangeShapes Go.WideShapes Go.ChangeAt Go.RowKit
/-- Is it that block's name? -/
def isB (s : ByteArray) (k : Nat) : Bool := mayB k && ((nameF k).toList == s.toList)
def parseF (s : ByteArray) : Option Nat := (List.range 16).find? (isB s)
def parseV (s : ByteArray) : Value := match parseF s with | some k => .tuple #[.int .i64 k, .bool true] | none => .tuple #[.int .i64 0, .bool false]
theorem parse_some {s : ByteArray} {k : Nat} (h : isB s k = true) (hk : k < 16) (hb : ∀ j, j < k → isB s j = false) : parseV s = .tuple #[.int .i64 k, .bool true] := by
  have : parseF s = some k := by
    unfold parseF
    rw [List.find?_range_eq_some]
    exact ⟨h, List.mem_range.2 hk, fun j hj => by simp [hb j hj]⟩
  unfold parseV
  rw [this]
theorem parse_none {s : ByteArray} (hb : ∀ j, j < 16 → isB s j = false) : parseV s = .tuple #[.int .i64 0, .bool false] := by
  have : parseF s = none := by
    unfold parseF
    rw [List.find?_range_eq_none]
    exact fun j hj => by simp [hb j hj]
  unfold parseV
  rw [this]
set_option maxHeartbeats 4000000 in
theorem r4_parse (s : ByteArray) (w : World) : Calls Tryd.prog 21 #[.string s] w fun e w' => e = .returned (parseV s) ∧ Below w.heap.size w w' := by
  go_enter Tryd.func21, Tryd.ntmps21
  go_wp2_with fail
  go_loopw [4] (fun i wr => ∃ k : Nat, k ≤ 16 ∧ i = .int .i64 k ∧ (∀ j, j < k → isB s j = false) ∧ Below w.heap.size w wr) (fun i _ => 16 - (intOf i).toNat)
  case atStart => exact ⟨0, by omega, rfl, fun j hj => absurd hj (by omega), by (repeat (first | with_reducible assumption | with_reducible exact Below.refl _ _ | with_reducible refine Below.drew ?_ | with_reducible refine below_drewN ?_ _ | with_reducible refine al ?_ _ | (with_reducible refine sc ?_ ?_; (focus (first | omega | (simp; done) | (simp; omega)))) | (with_reducible refine chain ?_ (by assumption))))⟩
  case round =>
    obtain ⟨k, hk, rfl, hno, kw⟩ := hrel
    by_cases hlt : k < 16
    · have hm := fun u => r4_may k u
      have hn := fun u => r4_name k (by constructor <;> omega) u
      obtain ⟨m, hm0⟩ : ∃ m, mayB k = m := ⟨_, rfl⟩
      obtain ⟨q, hq0⟩ : ∃ q, ((nameF k).toList == s.toList) = q := ⟨_, rfl⟩
      have hB : isB s k = (m && q) := by unfold isB; rw [hm0, hq0]
      rw [hm0] at hm
      have HM := Lib.hid hm
      have HN := Lib.hid hn
      have HB := Lib.hid hB
      have HQ := Lib.hid hno
      clear hm hn hB hm0 hno
      cases m
      · go_wp2_with (go_at_call 8; refine (HM.out _).mono ?_; rintro e w' ⟨rfl, rfl⟩)
        go_roundw
        case rel =>
          exact ⟨k + 1, by omega, by go_num, fun j hj => by
            by_cases h : j = k
            · subst h; simpa using HB.out
            · exact HQ.out j (by omega), by (repeat (first | with_reducible assumption | with_reducible exact Below.refl _ _ | with_reducible refine Below.drew ?_ | with_reducible refine below_drewN ?_ _ | with_reducible refine al ?_ _ | (with_reducible refine sc ?_ ?_; (focus (first | omega | (simp; done) | (simp; omega)))) | (with_reducible refine chain ?_ (by assumption))))⟩
        case measure => simp [intOf]; omega
      · go_wp2_with (go_at_call 8; refine (HM.out _).mono ?_; rintro e w' ⟨rfl, rfl⟩)
        (refine (HN.out _).mono ?_; rintro e w1 ⟨rfl, hb1⟩)
        have k1 : Below w.heap.size w w1 := by (repeat (first | with_reducible assumption | with_reducible exact Below.refl _ _ | with_reducible refine Below.drew ?_ | with_reducible refine below_drewN ?_ _ | with_reducible refine al ?_ _ | (with_reducible refine sc ?_ ?_; (focus (first | omega | (simp; done) | (simp; omega)))) | (with_reducible refine chain ?_ (by assumption))))
        cases q
        · go_wp2_with fail
          go_roundw
          case rel =>
            exact ⟨k + 1, by omega, by go_num, fun j hj => by
              by_cases h : j = k
              · subst h; simpa using HB.out
              · exact HQ.out j (by omega), by (repeat (first | with_reducible assumption | with_reducible exact Below.refl _ _ | with_reducible refine Below.drew ?_ | with_reducible refine below_drewN ?_ _ | with_reducible refine al ?_ _ | (with_reducible refine sc ?_ ?_; (focus (first | omega | (simp; done) | (simp; omega)))) | (with_reducible refine chain ?_ (by assumption))))⟩
          case measure => simp [intOf]; omega
        · go_wp2_with fail
          go_ret2
          exact ⟨by rw [parse_some (by simpa using HB.out) hlt HQ.out]; rfl, by (repeat (first | with_reducible assumption | with_reducible exact Below.refl _ _ | with_reducible refine Below.drew ?_ | with_reducible refine below_drewN ?_ _ | with_reducible refine al ?_ _ | (with_reducible refine sc ?_ ?_; (focus (first | omega | (simp; done) | (simp; omega)))) | (with_reducible refine chain ?_ (by assumption))))⟩
    · obtain rfl : k = 16 := by omega
      have e := parse_none hno
      have E := Lib.hid e
      clear e hno
      go_wp2_with fail
      go_ret2
      exact ⟨by rw [E.out]; rfl, by (repeat (first | with_reducible assumption | with_reducible exact Below.refl _ _ | with_reducible refine Below.drew ?_ | with_reducible refine below_drewN ?_ _ | with_reducible refine al ?_ _ | (with_reducible refine sc ?_ ?_; (focus (first | omega | (simp; done) | (simp; omega)))) | (with_reducible refine chain ?_ (by assumption))))⟩
end Go.Proofs.YtnodaoelijjhiaaDoor
