/- Words of layer 4: what names tell. -/
import Derived.Test.YtafmekojdaeliaaDoorR41
set_option linter.unusedVariables false
set_option linter.unusedSimpArgs false
namespace Go.Proofs.YtafmekojdaeliaaDoor
open Go.ChangeShapes Go.WideShapes Go.ChangeAt Go.RowKit
def waterF (n : Int) : Int := 8 + min (max n 0) 7
def allL : List Int := [0, 1, 2, 3, 4, 5, 8, 9, 10, 11, 12, 13, 14, 15]
theorem may_cases {b : Int} (h : mayB b = true) : b = 0 ∨ b = 1 ∨ b = 2 ∨ b = 3 ∨ b = 4 ∨ b = 5 ∨ b = 8 ∨ b = 9 ∨ b = 10 ∨ b = 11 ∨ b = 12 ∨ b = 13 ∨ b = 14 ∨ b = 15 := by
  have := mayB_bd h; omega
theorem name_none {b : Int} (h : mayB b = false) : nameF b = ⟨#[]⟩ := by
  unfold mayB at h; unfold nameF
  simp at h
  rw [if_neg (by omega), if_neg (by omega), if_neg (by omega), if_neg (by omega), if_neg (by omega), if_neg (by omega), if_neg (by omega)]
theorem parse_name {b : Int} (h : mayB b = true) : parseV (nameF b) = .tuple #[.int .i64 b, .bool true] := by
  rcases may_cases h with rfl | rfl | rfl | rfl | rfl | rfl | rfl | rfl | rfl | rfl | rfl | rfl | rfl | rfl
  all_goals kernel_rfl
theorem parse_empty : parseV ⟨#[]⟩ = .tuple #[.int .i64 0, .bool false] := by kernel_rfl
theorem parse_odd (b : Int) : parseV (nameF b ++ ⟨#[32]⟩) = .tuple #[.int .i64 0, .bool false] := by
  cases h : mayB b
  · rw [name_none h]; kernel_rfl
  · rcases may_cases h with rfl | rfl | rfl | rfl | rfl | rfl | rfl | rfl | rfl | rfl | rfl | rfl | rfl | rfl
    all_goals kernel_rfl
theorem bytes_eq {a b : ByteArray} (h : a.toList = b.toList) : a = b := by
  rw [ByteArray.toList_eq, ByteArray.toList_eq] at h
  obtain ⟨⟨x⟩⟩ := a
  obtain ⟨⟨y⟩⟩ := b
  have h : x = y := h
  rw [h]
/-- Names tell blocks apart. -/
theorem names_apart (a b : Int) : ((nameF a).toList == (nameF b).toList) = (a == b || (!mayB a && !mayB b)) := by
  rw [Bool.eq_iff_iff]
  simp only [beq_iff_eq, Bool.or_eq_true, Bool.and_eq_true, Bool.not_eq_true']
  constructor
  · intro h
    have h := bytes_eq h
    cases ha : mayB a
    · cases hb : mayB b
      · right; exact ⟨rfl, rfl⟩
      · have h2 := parse_name hb
        rw [← h, name_none ha, parse_empty] at h2
        simp at h2
    · cases hb : mayB b
      · have h2 := parse_name ha
        rw [h, name_none hb, parse_empty] at h2
        simp at h2
      · have h2 := parse_name ha
        rw [h, parse_name hb] at h2
        simp at h2
        exact .inl h2.symm
  · rintro (rfl | ⟨ha, hb⟩)
    · rfl
    · rw [name_none ha, name_none hb]
theorem name_size (b : Int) : (nameF b).size ≤ 6 := by
  unfold nameF
  repeat' split
  all_goals simp [ByteArray.size]
theorem all_good : ∀ i : Nat, i < 14 → ∃ h : i < allL.length, allL[i] = goodF i
  | 0, _ => ⟨by decide, by decide⟩
  | 1, _ => ⟨by decide, by decide⟩
  | 2, _ => ⟨by decide, by decide⟩
  | 3, _ => ⟨by decide, by decide⟩
  | 4, _ => ⟨by decide, by decide⟩
  | 5, _ => ⟨by decide, by decide⟩
  | 6, _ => ⟨by decide, by decide⟩
  | 7, _ => ⟨by decide, by decide⟩
  | 8, _ => ⟨by decide, by decide⟩
  | 9, _ => ⟨by decide, by decide⟩
  | 10, _ => ⟨by decide, by decide⟩
  | 11, _ => ⟨by decide, by decide⟩
  | 12, _ => ⟨by decide, by decide⟩
  | 13, _ => ⟨by decide, by decide⟩
  | n + 14, h => absurd h (by omega)
theorem water_wet (n : Int) : wetB (waterF n) = true := by unfold wetB waterF; simp; omega
theorem water_level (n : Int) : levelF (waterF n) = min (max n 0) 7 := by
  unfold levelF; rw [if_pos (water_wet n)]; unfold waterF; omega
theorem water_i64 (n : Int) : i64 (waterF n) := by unfold waterF; constructor <;> omega
/-- Each block is solid, gives way, or is climbed, and one alone. -/
def kindsF (b : Int) : Int := (if solidB b then 1 else 0) + (if yieldsB b then 1 else 0) + (if b == 4 then 1 else 0)
theorem kinds_one {b : Int} (h : mayB b = true) : kindsF b = 1 := by
  rcases may_cases h with rfl | rfl | rfl | rfl | rfl | rfl | rfl | rfl | rfl | rfl | rfl | rfl | rfl | rfl
  all_goals decide
end Go.Proofs.YtafmekojdaeliaaDoor
