/- Contracts of layer 7 (crc), of the landed code: steps, and what fills them. -/
import Derived.Test.YtnpondgnmoedhaaK74
import Derived.Test.YtnpondgnmoedhaaR71
import Derived.Test.YtnpondgnmoedhaaVRS
set_option linter.unusedVariables false
set_option linter.unusedSimpArgs false
namespace Go.Proofs.Ytnpondgnmoedhaa
open Go.ChangeShapes Go.WideShapes Go.ChangeAt Go.RowKit
theorem w16_bd (c : W16) : (0 : Int) ≤ (c.toNat : Int) ∧ (c.toNat : Int) ≤ 65535 := by have := c.isLt; omega
set_option maxHeartbeats 4000000 in
theorem b7_fill (h : Nat) (hh : h < 16) (tb : Nat) (cs : Array Value) (T : TypeId) (hc : cs.size = 16) (w : World) (hr : RowAt w tb cs T) : Calls Try.prog 26 #[.int .u16 h, .pointer (some ⟨tb, 0, none⟩)] w fun e w' => e = .returned (.tuple #[]) ∧ w' = w.setCell ⟨tb, h, none⟩ (.int .u16 ((tab4 h).toNat : Int)) := by
  obtain ⟨D, hD⟩ : ∃ D, BitVec.ofNat 16 (h * 4096) = D := ⟨_, rfl⟩
  have hDn : D.toNat = h * 4096 := by rw [← hD, BitVec.toNat_ofNat]; omega
  have hT : tab4 h = iterB 4 D := by rw [← hD]; rfl
  rw [hT]
  have cc := hr.cell h
  have cf := hr.frozen h
  obtain ⟨x0, hx0⟩ : ∃ x, cs[h]? = some x := ⟨_, Array.getElem?_eq_getElem (by omega)⟩
  rw [hx0] at cc
  have hw : IntKind.u16.wrap ((h : Int) * 4096) = (h : Int) * 4096 := by show _ % 65536 = _; omega
  have hD2 : (h : Int) * 4096 = ((iterB 0 D).toNat : Int) := by show _ = (D.toNat : Int); omega
  have HD := Lib.hid hD2
  have hb : (h : Int) < 16 := by omega
  clear hT hD hDn hx0 hD2
  go_enter Try.func26, Try.ntmps26
  go_wp2_with fail
  go_loop [3, 4, 7] (fun x o i => ∃ m : Nat, m ≤ 4 ∧ i = .int .i64 m ∧ x = .int .u16 ((iterB m D).toNat : Int)) (fun _ _ i => 4 - (intOf i).toNat)
  case atStart => exact ⟨0, by omega, rfl, by rw [← HD.out]⟩
  case round =>
    obtain ⟨m, hm, rfl, rfl⟩ := hrel
    by_cases hm4 : m < 4
    · have hn : (iterB (m + 1) D).toNat = _ := stB_nat (iterB m D)
      have hlt := (iterB m D).isLt
      obtain ⟨x, hx⟩ : ∃ x, (iterB m D).toNat = x := ⟨_, rfl⟩
      rw [hx] at hn hlt ⊢
      obtain ⟨y, hy⟩ : ∃ y, (iterB (m + 1) D).toNat = y := ⟨_, rfl⟩
      rw [hy] at hn
      have HY := Lib.hid hy
      have hlt2 : x < 65536 := hlt
      clear hx hy hlt
      obtain ⟨X, hX⟩ : ∃ X : Int, (x : Int) = X := ⟨_, rfl⟩
      obtain ⟨Y, hY⟩ : ∃ Y : Int, (y : Int) = Y := ⟨_, rfl⟩
      have two : (X / 32768 = 1 ∧ IntKind.u16.wrap (X * 2) = X * 2 - 65536 ∧ bits .xor .u16 (X * 2 - 65536) 4129 = Y) ∨ (X / 32768 = 0 ∧ IntKind.u16.wrap (X * 2) = Y) := by
        subst hX
        subst hY
        by_cases h6 : 65536 ≤ x * 2
        · rw [if_pos h6] at hn
          left
          refine ⟨by omega, by show _ % 65536 = _; omega, ?_⟩
          rw [show (x : Int) * 2 - 65536 = ((x * 2 - 65536 : Nat) : Int) by omega, show (4129 : Int) = ((4129 : Nat) : Int) from rfl, u16_xor4 _ _ (by omega) (by omega), ← hn]
        · rw [if_neg h6] at hn
          right
          exact ⟨by omega, by show _ % 65536 = _; omega⟩
      have X0 : 0 ≤ X := by omega
      have X1 : X ≤ 65535 := by omega
      rw [hX]
      have HYI := Lib.hid hY
      clear hn hlt2 hX hY
      rcases two with ⟨h6, hxr, hx2⟩ | ⟨h6, hy2⟩
      · have h7 : ¬ X / 32768 = 0 := by omega
        go_wp2_with fail
        go_round
        case rel => exact ⟨m + 1, by omega, by go_num, by rw [HY.out, HYI.out]⟩
        case measure => simp [intOf]; omega
      · have h7 : ¬ X / 32768 = 1 := by omega
        go_wp2_with fail
        go_round
        case rel => exact ⟨m + 1, by omega, by go_num, by rw [HY.out, HYI.out]⟩
        case measure => simp [intOf]; omega
    · obtain rfl : m = 4 := by omega
      obtain ⟨R, hR⟩ : ∃ R, ((iterB 4 D).toNat : Int) = R := ⟨_, rfl⟩
      rw [hR]
      go_wp2_with fail
      exact bodyPost_end (v := .tuple #[]) (by simp [results, Try.results26, go_sem]) rfl ⟨rfl, rfl⟩
/-- What half a byte's steps turn a word by, by its highest bits. -/
def tabAt (k : Nat) : Value := .int .u16 ((tab4 k).toNat : Int)
def tabRow : Array Value := #[tabAt 0, tabAt 1, tabAt 2, tabAt 3, tabAt 4, tabAt 5, tabAt 6, tabAt 7, tabAt 8, tabAt 9, tabAt 10, tabAt 11, tabAt 12, tabAt 13, tabAt 14, tabAt 15]
theorem tabRow_at : ∀ k : Nat, k < 16 → tabRow[k]? = some (tabAt k)
  | 0, _ | 1, _ | 2, _ | 3, _ | 4, _ | 5, _ | 6, _ | 7, _ | 8, _ | 9, _ | 10, _ | 11, _ | 12, _ | 13, _ | 14, _ | 15, _ => rfl
  | n + 16, h => absurd h (by omega)
theorem tabRow_all {cs : Array Value} (hc : cs.size = 16) (h : ∀ k, k < 16 → cs[k]? = some (tabAt k)) : cs = tabRow := by
  apply Array.ext_getElem?
  intro i
  by_cases hi : i < 16
  · rw [h i hi, tabRow_at i hi]
  · rw [Array.getElem?_eq_none (by omega), Array.getElem?_eq_none (by show 16 ≤ i; omega)]
set_option maxHeartbeats 4000000 in
theorem b7_steps (w : World) : Calls Try.prog 23 #[] w fun e w' => e = .returned (.agg tabRow) ∧ Below w.heap.size w w' := by
  have i16 : (Try.prog.info? 45).map (·.size) = some 16 := by kernel_rfl
  go_enter Try.func23, Try.ntmps23
  go_wp2_with fail
  go_loopw [3, 5] (fun _ i wr => ∃ (k : Nat) (cs : Array Value), k ≤ 16 ∧ i = .int .u16 k ∧ cs.size = 16 ∧ RowAt wr (w.heap.size + 1) cs 45 ∧ (∀ j, j < k → cs[j]? = some (tabAt j)) ∧ RowAt wr w.heap.size (Array.replicate 16 (.int .u16 0)) 45 ∧ Below w.heap.size w wr) (fun _ i _ => 16 - (intOf i).toNat)
  case atStart => exact ⟨0, Array.replicate 16 (.int .u16 0), by omega, rfl, rfl, RowAt.make _ _ _ (by simp), fun j hj => absurd hj (by omega), RowAt.alloc (RowAt.new _ _ _) _, by (repeat (first | with_reducible assumption | with_reducible exact Below.refl _ _ | with_reducible refine Below.drew ?_ | with_reducible refine below_drewN ?_ _ | with_reducible refine al ?_ _ | (with_reducible refine sc ?_ ?_; (focus (first | omega | (simp; done) | (simp; omega)))) | (with_reducible refine chain ?_ (by assumption))))⟩
  case round =>
    obtain ⟨k, cs, hk, rfl, hcs, hr, ht, hr0, kw⟩ := hrel
    by_cases hlt : k < 16
    · have hki : (k : Int) < 16 := by omega
      have wk : IntKind.u16.wrap ((k : Int) + 1) = (k : Int) + 1 := by show _ % 65536 = _; omega
      go_wp2_with fail
      refine (b7_fill k hlt (w.heap.size + 1) cs _ hcs _ hr).mono ?_
      rintro e w1 ⟨rfl, rfl⟩
      have hr1 := hr.set k (.int .u16 ((tab4 k).toNat : Int))
      have hr01 := hr0.other (p := ⟨w.heap.size + 1, k, none⟩) (by show ¬ w.heap.size = w.heap.size + 1; omega) (.int .u16 ((tab4 k).toNat : Int))
      have kw1 : Below w.heap.size w (wr.setCell ⟨w.heap.size + 1, k, none⟩ (.int .u16 ((tab4 k).toNat : Int))) := sc (by show w.heap.size ≤ w.heap.size + 1; omega) kw
      generalize wr.setCell ⟨w.heap.size + 1, k, none⟩ (.int .u16 ((tab4 k).toNat : Int)) = w2 at *
      go_wp2_with fail
      go_roundw
      case rel =>
        refine ⟨k + 1, _, by omega, by go_num, by simpa using hcs, hr1, fun j hj => ?_, hr01, kw1⟩
        by_cases hjk : j = k
        · subst hjk
          simp [hcs, hlt, tabAt]
        · rw [Array.getElem?_setIfInBounds_ne (by omega)]
          exact ht j (by omega)
      case measure => simp [intOf]; omega
    · obtain rfl : k = 16 := by omega
      obtain rfl := tabRow_all hcs ht
      go_wp2_with (first | refine wpList_load_row rfl 45 _ rfl (w.heap.size + 1) rfl _ _ _ _ hr Try.underlying45 rfl i16 ?_ | refine wpList_store_row rfl 45 _ _ rfl w.heap.size tabRow rfl rfl _ _ hr0 i16 rfl (by simp [tabRow, tabAt, Value.oneCell']) ?_)
      exact bodyPost_ret (v := .agg tabRow) (results_cell_row rfl _ _ w.heap.size _ _ _ _ rfl (hr0.row _) Try.underlying45 rfl i16) rfl ⟨rfl, below_setRow kw (by omega) _⟩
end Go.Proofs.Ytnpondgnmoedhaa
