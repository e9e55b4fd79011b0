/- Contracts of layer 3 (cell): Span. -/
import Derived.Test.YtenpcmhfbbfpeaaC03
import Derived.Test.YtenpcmhfbbfpeaaS02
set_option linter.unusedVariables false
set_option linter.unusedSimpArgs false
namespace Go.Proofs.Ytenpcmhfbbfpeaa
open Go.ChangeShapes Go.WideShapes Go.ChangeAt Go.RowKit
abbrev spanV (a b c d e f : Int) : Value := .tuple #[vecV a b c, vecV d e f, .bool true]
abbrev spanN : Value := .tuple #[vecV 0 0 0, vecV 0 0 0, .bool false]
set_option maxHeartbeats 4000000 in
theorem c3_span (x y z x' y' z' : Int) (hx : cut x / 65536 ≤ belowF x') (hy : cut y / 65536 ≤ belowF y') (hz : cut z / 65536 ≤ belowF z') (w : World) : Calls Try.prog 36 #[boxV x y z x' y' z'] w fun e w' =>
    e = .returned (spanV (cut x / 65536) (cut y / 65536) (cut z / 65536) (belowF x') (belowF y') (belowF z')) ∧ Below w.heap.size w w' := by
  have co := fun k => c3_of x y z k
  have bx := fun k => c3_below x' k
  have by_ := fun k => c3_below y' k
  have bz := fun k => c3_below z' k
  obtain ⟨A, hA⟩ : ∃ A, cut x / 65536 = A := ⟨_, rfl⟩
  obtain ⟨B, hB⟩ : ∃ A, cut y / 65536 = A := ⟨_, rfl⟩
  obtain ⟨C, hC⟩ : ∃ A, cut z / 65536 = A := ⟨_, rfl⟩
  obtain ⟨D, hD⟩ : ∃ A, belowF x' = A := ⟨_, rfl⟩
  obtain ⟨E, hE⟩ : ∃ A, belowF y' = A := ⟨_, rfl⟩
  obtain ⟨F, hF⟩ : ∃ A, belowF z' = A := ⟨_, rfl⟩
  rw [hA, hB, hC] at co
  rw [hD] at bx
  rw [hE] at by_
  rw [hF] at bz
  rw [hA, hD] at hx
  rw [hB, hE] at hy
  rw [hC, hF] at hz
  rw [hA, hB, hC, hD, hE, hF]
  have CO := Lib.hid co
  have BX := Lib.hid bx
  have BY := Lib.hid by_
  have BZ := Lib.hid bz
  have d0 : decide (D < A) = false := by simpa using hx
  have d1 : decide (E < B) = false := by simpa using hy
  have d2 : decide (F < C) = false := by simpa using hz
  clear co bx by_ bz hA hB hC hD hE hF hx hy hz
  go_enter Try.func36, Try.ntmps36
  go_wp2_with fail

  refine region_alloc2 15 1 5 6 (.cells #[.int .i64 0, .int .i64 0, .int .i64 0] 28) (.cells #[.int .i64 0, .int .i64 0, .int .i64 0] 28) _ _ (by kernel_rfl) (by kernel_rfl) rfl (fun _ _ => by go_simp) (fun _ _ => by go_simp) (fun _ _ _ _ _ h => h) ?_
  simp only [List.take_succ_cons, List.take_zero, List.drop_succ_cons, List.drop_zero]
  repeat (first | (refine' InText.skip (by rfl) ?_; simp only [Act.put, List.setIfInBounds_toArray, List.set_cons_zero, List.set_cons_succ]) | (refine' InText.val (by rfl) (fun wr hr => ?_) ?_; rotate_left 1; (focus (obtain ⟨hrc, hrf⟩ := bcell hr; (go_simp <;> with_reducible rfl); done)); simp only [Act.put, List.setIfInBounds_toArray, List.set_cons_zero, List.set_cons_succ]) | (refine' InText.call (by rfl) (fun wr hr => ?_) (fun wr hr => ?_) ?_; rotate_left 3; (focus ((go_simp <;> (first | with_reducible rfl | exact ⟨rfl, rfl⟩)); done)); (focus (first | with_reducible exact CO.out _ | with_reducible exact pureB (BX.out _) | with_reducible exact pureB (BY.out _) | with_reducible exact pureB (BZ.out _))); simp only [Act.put, List.setIfInBounds_toArray, List.set_cons_zero, List.set_cons_succ]))
  refine InText.done ?_
  repeat (refine' Lates.val (by rfl) (fun wq => ?_) ?_; rotate_left 1; (focus ((go_simp <;> with_reducible rfl); done)); simp only [Act.put, List.setIfInBounds_toArray, List.set_cons_zero, List.set_cons_succ])
  refine Lates.done ?_
  refine fun wva wvb wr hna hnb hne => ?_
  obtain ⟨hva, hra⟩ := hna
  obtain ⟨hvb, hrb⟩ := hnb
  have hnf : ¬ wvb.heap.size = wva.heap.size := fun h => hne h.symm
  simp only [putAll, Act.put, List.setIfInBounds_toArray, List.set_cons_zero, List.set_cons_succ]
  obtain ⟨_hcwva, _hfwva⟩ := bcell hva
  have _zwva0 : w.heap.size < wva.heap.size := size_lt (by first | (simp; done) | (simp; omega) | omega | (simp [World.setCell]; done) | (simp [World.setCell]; omega)) hva
  have _zwva1 : w.heap.size + 1 < wva.heap.size := size_lt (by first | (simp; done) | (simp; omega) | omega | (simp [World.setCell]; done) | (simp [World.setCell]; omega)) hva
  have _zwva2 : w.heap.size + 1 + 1 < wva.heap.size := size_lt (by first | (simp; done) | (simp; omega) | omega | (simp [World.setCell]; done) | (simp [World.setCell]; omega)) hva
  obtain ⟨_hcwvb, _hfwvb⟩ := bcell hvb
  have _zwvb0 : w.heap.size < wvb.heap.size := size_lt (by first | (simp; done) | (simp; omega) | omega | (simp [World.setCell]; done) | (simp [World.setCell]; omega)) hvb
  have _zwvb1 : w.heap.size + 1 < wvb.heap.size := size_lt (by first | (simp; done) | (simp; omega) | omega | (simp [World.setCell]; done) | (simp [World.setCell]; omega)) hvb
  have _zwvb2 : w.heap.size + 1 + 1 < wvb.heap.size := size_lt (by first | (simp; done) | (simp; omega) | omega | (simp [World.setCell]; done) | (simp [World.setCell]; omega)) hvb
  obtain ⟨_hcwr, _hfwr⟩ := bcell hra
  have _zwr0 : w.heap.size < wr.heap.size := size_lt (by first | (simp; done) | (simp; omega) | omega | (simp [World.setCell]; done) | (simp [World.setCell]; omega)) hra
  have _zwr1 : w.heap.size + 1 < wr.heap.size := size_lt (by first | (simp; done) | (simp; omega) | omega | (simp [World.setCell]; done) | (simp [World.setCell]; omega)) hra
  have _zwr2 : w.heap.size + 1 + 1 < wr.heap.size := size_lt (by first | (simp; done) | (simp; omega) | omega | (simp [World.setCell]; done) | (simp [World.setCell]; omega)) hra
  have _zwr3 : wva.heap.size < wr.heap.size := size_lt (by first | (simp; done) | (simp; omega) | omega | (simp [World.setCell]; done) | (simp [World.setCell]; omega)) hra
  obtain ⟨hcb, hfb⟩ := bcell hrb
  have zb : wvb.heap.size < wr.heap.size := size_lt (by first | (simp; done) | (simp; omega) | omega | (simp [World.setCell]; done) | (simp [World.setCell]; omega)) hrb
  have kr : Below w.heap.size w wr := by (repeat (first | with_reducible assumption | with_reducible exact Below.refl _ _ | with_reducible refine Below.drew ?_ | with_reducible refine below_drewN ?_ _ | with_reducible refine al ?_ _ | (with_reducible refine sc ?_ ?_; (focus (first | omega | (simp; done) | (simp; omega)))) | (with_reducible refine chain ?_ (by assumption))))
  go_wp2_with fail
  have kw : Below w.heap.size w ((((((wr.setCell ⟨wva.heap.size, 0, none⟩ (.int .i64 A)).setCell ⟨wva.heap.size, 1, none⟩ (.int .i64 B)).setCell ⟨wva.heap.size, 2, none⟩ (.int .i64 C)).setCell ⟨wvb.heap.size, 0, none⟩ (.int .i64 D)).setCell ⟨wvb.heap.size, 1, none⟩ (.int .i64 E)).setCell ⟨wvb.heap.size, 2, none⟩ (.int .i64 F)) := by (repeat (first | with_reducible assumption | with_reducible exact Below.refl _ _ | with_reducible refine Below.drew ?_ | with_reducible refine below_drewN ?_ _ | with_reducible refine al ?_ _ | (with_reducible refine sc ?_ ?_; (focus (first | omega | (simp; done) | (simp; omega)))) | (with_reducible refine chain ?_ (by assumption))))
  have ca0 : ((((((wr.setCell ⟨wva.heap.size, 0, none⟩ (.int .i64 A)).setCell ⟨wva.heap.size, 1, none⟩ (.int .i64 B)).setCell ⟨wva.heap.size, 2, none⟩ (.int .i64 C)).setCell ⟨wvb.heap.size, 0, none⟩ (.int .i64 D)).setCell ⟨wvb.heap.size, 1, none⟩ (.int .i64 E)).setCell ⟨wvb.heap.size, 2, none⟩ (.int .i64 F)).cell? ⟨wva.heap.size, 0, none⟩ = some (.int .i64 A) := by go_simp
  have ca1 : ((((((wr.setCell ⟨wva.heap.size, 0, none⟩ (.int .i64 A)).setCell ⟨wva.heap.size, 1, none⟩ (.int .i64 B)).setCell ⟨wva.heap.size, 2, none⟩ (.int .i64 C)).setCell ⟨wvb.heap.size, 0, none⟩ (.int .i64 D)).setCell ⟨wvb.heap.size, 1, none⟩ (.int .i64 E)).setCell ⟨wvb.heap.size, 2, none⟩ (.int .i64 F)).cell? ⟨wva.heap.size, 1, none⟩ = some (.int .i64 B) := by go_simp
  have ca2 : ((((((wr.setCell ⟨wva.heap.size, 0, none⟩ (.int .i64 A)).setCell ⟨wva.heap.size, 1, none⟩ (.int .i64 B)).setCell ⟨wva.heap.size, 2, none⟩ (.int .i64 C)).setCell ⟨wvb.heap.size, 0, none⟩ (.int .i64 D)).setCell ⟨wvb.heap.size, 1, none⟩ (.int .i64 E)).setCell ⟨wvb.heap.size, 2, none⟩ (.int .i64 F)).cell? ⟨wva.heap.size, 2, none⟩ = some (.int .i64 C) := by go_simp
  have cb0 : ((((((wr.setCell ⟨wva.heap.size, 0, none⟩ (.int .i64 A)).setCell ⟨wva.heap.size, 1, none⟩ (.int .i64 B)).setCell ⟨wva.heap.size, 2, none⟩ (.int .i64 C)).setCell ⟨wvb.heap.size, 0, none⟩ (.int .i64 D)).setCell ⟨wvb.heap.size, 1, none⟩ (.int .i64 E)).setCell ⟨wvb.heap.size, 2, none⟩ (.int .i64 F)).cell? ⟨wvb.heap.size, 0, none⟩ = some (.int .i64 D) := by go_simp
  have cb1 : ((((((wr.setCell ⟨wva.heap.size, 0, none⟩ (.int .i64 A)).setCell ⟨wva.heap.size, 1, none⟩ (.int .i64 B)).setCell ⟨wva.heap.size, 2, none⟩ (.int .i64 C)).setCell ⟨wvb.heap.size, 0, none⟩ (.int .i64 D)).setCell ⟨wvb.heap.size, 1, none⟩ (.int .i64 E)).setCell ⟨wvb.heap.size, 2, none⟩ (.int .i64 F)).cell? ⟨wvb.heap.size, 1, none⟩ = some (.int .i64 E) := by go_simp
  have cb2 : ((((((wr.setCell ⟨wva.heap.size, 0, none⟩ (.int .i64 A)).setCell ⟨wva.heap.size, 1, none⟩ (.int .i64 B)).setCell ⟨wva.heap.size, 2, none⟩ (.int .i64 C)).setCell ⟨wvb.heap.size, 0, none⟩ (.int .i64 D)).setCell ⟨wvb.heap.size, 1, none⟩ (.int .i64 E)).setCell ⟨wvb.heap.size, 2, none⟩ (.int .i64 F)).cell? ⟨wvb.heap.size, 2, none⟩ = some (.int .i64 F) := by go_simp
  have cp0 : ((((((wr.setCell ⟨wva.heap.size, 0, none⟩ (.int .i64 A)).setCell ⟨wva.heap.size, 1, none⟩ (.int .i64 B)).setCell ⟨wva.heap.size, 2, none⟩ (.int .i64 C)).setCell ⟨wvb.heap.size, 0, none⟩ (.int .i64 D)).setCell ⟨wvb.heap.size, 1, none⟩ (.int .i64 E)).setCell ⟨wvb.heap.size, 2, none⟩ (.int .i64 F)).cell? ⟨w.heap.size + 1, 0, none⟩ = some (.int .i64 0) := by go_simp
  have cp1 : ((((((wr.setCell ⟨wva.heap.size, 0, none⟩ (.int .i64 A)).setCell ⟨wva.heap.size, 1, none⟩ (.int .i64 B)).setCell ⟨wva.heap.size, 2, none⟩ (.int .i64 C)).setCell ⟨wvb.heap.size, 0, none⟩ (.int .i64 D)).setCell ⟨wvb.heap.size, 1, none⟩ (.int .i64 E)).setCell ⟨wvb.heap.size, 2, none⟩ (.int .i64 F)).cell? ⟨w.heap.size + 1, 1, none⟩ = some (.int .i64 0) := by go_simp
  have cp2 : ((((((wr.setCell ⟨wva.heap.size, 0, none⟩ (.int .i64 A)).setCell ⟨wva.heap.size, 1, none⟩ (.int .i64 B)).setCell ⟨wva.heap.size, 2, none⟩ (.int .i64 C)).setCell ⟨wvb.heap.size, 0, none⟩ (.int .i64 D)).setCell ⟨wvb.heap.size, 1, none⟩ (.int .i64 E)).setCell ⟨wvb.heap.size, 2, none⟩ (.int .i64 F)).cell? ⟨w.heap.size + 1, 2, none⟩ = some (.int .i64 0) := by go_simp
  have cq0 : ((((((wr.setCell ⟨wva.heap.size, 0, none⟩ (.int .i64 A)).setCell ⟨wva.heap.size, 1, none⟩ (.int .i64 B)).setCell ⟨wva.heap.size, 2, none⟩ (.int .i64 C)).setCell ⟨wvb.heap.size, 0, none⟩ (.int .i64 D)).setCell ⟨wvb.heap.size, 1, none⟩ (.int .i64 E)).setCell ⟨wvb.heap.size, 2, none⟩ (.int .i64 F)).cell? ⟨w.heap.size + 1 + 1, 0, none⟩ = some (.int .i64 0) := by go_simp
  have cq1 : ((((((wr.setCell ⟨wva.heap.size, 0, none⟩ (.int .i64 A)).setCell ⟨wva.heap.size, 1, none⟩ (.int .i64 B)).setCell ⟨wva.heap.size, 2, none⟩ (.int .i64 C)).setCell ⟨wvb.heap.size, 0, none⟩ (.int .i64 D)).setCell ⟨wvb.heap.size, 1, none⟩ (.int .i64 E)).setCell ⟨wvb.heap.size, 2, none⟩ (.int .i64 F)).cell? ⟨w.heap.size + 1 + 1, 1, none⟩ = some (.int .i64 0) := by go_simp
  have cq2 : ((((((wr.setCell ⟨wva.heap.size, 0, none⟩ (.int .i64 A)).setCell ⟨wva.heap.size, 1, none⟩ (.int .i64 B)).setCell ⟨wva.heap.size, 2, none⟩ (.int .i64 C)).setCell ⟨wvb.heap.size, 0, none⟩ (.int .i64 D)).setCell ⟨wvb.heap.size, 1, none⟩ (.int .i64 E)).setCell ⟨wvb.heap.size, 2, none⟩ (.int .i64 F)).cell? ⟨w.heap.size + 1 + 1, 2, none⟩ = some (.int .i64 0) := by go_simp
  have fp : ∀ o, ((((((wr.setCell ⟨wva.heap.size, 0, none⟩ (.int .i64 A)).setCell ⟨wva.heap.size, 1, none⟩ (.int .i64 B)).setCell ⟨wva.heap.size, 2, none⟩ (.int .i64 C)).setCell ⟨wvb.heap.size, 0, none⟩ (.int .i64 D)).setCell ⟨wvb.heap.size, 1, none⟩ (.int .i64 E)).setCell ⟨wvb.heap.size, 2, none⟩ (.int .i64 F)).frozen? ⟨w.heap.size + 1, o, none⟩ = false := by go_simp
  have fq : ∀ o, ((((((wr.setCell ⟨wva.heap.size, 0, none⟩ (.int .i64 A)).setCell ⟨wva.heap.size, 1, none⟩ (.int .i64 B)).setCell ⟨wva.heap.size, 2, none⟩ (.int .i64 C)).setCell ⟨wvb.heap.size, 0, none⟩ (.int .i64 D)).setCell ⟨wvb.heap.size, 1, none⟩ (.int .i64 E)).setCell ⟨wvb.heap.size, 2, none⟩ (.int .i64 F)).frozen? ⟨w.heap.size + 1 + 1, o, none⟩ = false := by go_simp
  generalize ((((((wr.setCell ⟨wva.heap.size, 0, none⟩ (.int .i64 A)).setCell ⟨wva.heap.size, 1, none⟩ (.int .i64 B)).setCell ⟨wva.heap.size, 2, none⟩ (.int .i64 C)).setCell ⟨wvb.heap.size, 0, none⟩ (.int .i64 D)).setCell ⟨wvb.heap.size, 1, none⟩ (.int .i64 E)).setCell ⟨wvb.heap.size, 2, none⟩ (.int .i64 F)) = W at *
  clear hva hra hvb hrb hcb hfb zb kr _hcwva _hfwva _hcwvb _hfwvb _hcwr _hfwr hne hnf
  go_region
  all_goals
    go_wp2
    refine bodyPost_ret (v := spanV A B C D E F) (by simp [results, Try.results36, go_sem, *]; done) rfl ⟨rfl, ?_⟩
    (repeat (first | with_reducible assumption | with_reducible exact Below.refl _ _ | with_reducible refine Below.drew ?_ | with_reducible refine below_drewN ?_ _ | with_reducible refine al ?_ _ | (with_reducible refine sc ?_ ?_; (focus (first | omega | (simp; done) | (simp; omega)))) | (with_reducible refine chain ?_ (by assumption))))
set_option maxHeartbeats 4000000 in
theorem c3_span_no (x y z x' y' z' : Int) (h : belowF x' < cut x / 65536 ∨ belowF y' < cut y / 65536 ∨ belowF z' < cut z / 65536) (w : World) : Calls Try.prog 36 #[boxV x y z x' y' z'] w fun e w' =>
    e = .returned (spanN) ∧ Below w.heap.size w w' := by
  have co := fun k => c3_of x y z k
  have bx := fun k => c3_below x' k
  have by_ := fun k => c3_below y' k
  have bz := fun k => c3_below z' k
  obtain ⟨A, hA⟩ : ∃ A, cut x / 65536 = A := ⟨_, rfl⟩
  obtain ⟨B, hB⟩ : ∃ A, cut y / 65536 = A := ⟨_, rfl⟩
  obtain ⟨C, hC⟩ : ∃ A, cut z / 65536 = A := ⟨_, rfl⟩
  obtain ⟨D, hD⟩ : ∃ A, belowF x' = A := ⟨_, rfl⟩
  obtain ⟨E, hE⟩ : ∃ A, belowF y' = A := ⟨_, rfl⟩
  obtain ⟨F, hF⟩ : ∃ A, belowF z' = A := ⟨_, rfl⟩
  rw [hA, hB, hC] at co
  rw [hD] at bx
  rw [hE] at by_
  rw [hF] at bz
  rw [hA, hB, hC, hD, hE, hF] at h
  have CO := Lib.hid co
  have BX := Lib.hid bx
  have BY := Lib.hid by_
  have BZ := Lib.hid bz
  clear co bx by_ bz hA hB hC hD hE hF
  have hh : decide (D < A) = true ∨ (decide (D < A) = false ∧ decide (E < B) = true) ∨ (decide (D < A) = false ∧ decide (E < B) = false ∧ decide (F < C) = true) := by
    by_cases h0 : D < A
    · simp [h0]
    by_cases h1 : E < B
    · simp [h0, h1]
    have h2 : F < C := by omega
    simp [h0, h1, h2]
  clear h
  rcases hh with d0 | ⟨d0, d1⟩ | ⟨d0, d1, d2⟩
  all_goals
    go_enter Try.func36, Try.ntmps36
    go_wp2_with fail
  
    refine region_alloc2 15 1 5 6 (.cells #[.int .i64 0, .int .i64 0, .int .i64 0] 28) (.cells #[.int .i64 0, .int .i64 0, .int .i64 0] 28) _ _ (by kernel_rfl) (by kernel_rfl) rfl (fun _ _ => by go_simp) (fun _ _ => by go_simp) (fun _ _ _ _ _ h => h) ?_
    simp only [List.take_succ_cons, List.take_zero, List.drop_succ_cons, List.drop_zero]
    repeat (first | (refine' InText.skip (by rfl) ?_; simp only [Act.put, List.setIfInBounds_toArray, List.set_cons_zero, List.set_cons_succ]) | (refine' InText.val (by rfl) (fun wr hr => ?_) ?_; rotate_left 1; (focus (obtain ⟨hrc, hrf⟩ := bcell hr; (go_simp <;> with_reducible rfl); done)); simp only [Act.put, List.setIfInBounds_toArray, List.set_cons_zero, List.set_cons_succ]) | (refine' InText.call (by rfl) (fun wr hr => ?_) (fun wr hr => ?_) ?_; rotate_left 3; (focus ((go_simp <;> (first | with_reducible rfl | exact ⟨rfl, rfl⟩)); done)); (focus (first | with_reducible exact CO.out _ | with_reducible exact pureB (BX.out _) | with_reducible exact pureB (BY.out _) | with_reducible exact pureB (BZ.out _))); simp only [Act.put, List.setIfInBounds_toArray, List.set_cons_zero, List.set_cons_succ]))
    refine InText.done ?_
    repeat (refine' Lates.val (by rfl) (fun wq => ?_) ?_; rotate_left 1; (focus ((go_simp <;> with_reducible rfl); done)); simp only [Act.put, List.setIfInBounds_toArray, List.set_cons_zero, List.set_cons_succ])
    refine Lates.done ?_
    refine fun wva wvb wr hna hnb hne => ?_
    obtain ⟨hva, hra⟩ := hna
    obtain ⟨hvb, hrb⟩ := hnb
    have hnf : ¬ wvb.heap.size = wva.heap.size := fun h => hne h.symm
    simp only [putAll, Act.put, List.setIfInBounds_toArray, List.set_cons_zero, List.set_cons_succ]
    obtain ⟨_hcwva, _hfwva⟩ := bcell hva
    have _zwva0 : w.heap.size < wva.heap.size := size_lt (by first | (simp; done) | (simp; omega) | omega | (simp [World.setCell]; done) | (simp [World.setCell]; omega)) hva
    have _zwva1 : w.heap.size + 1 < wva.heap.size := size_lt (by first | (simp; done) | (simp; omega) | omega | (simp [World.setCell]; done) | (simp [World.setCell]; omega)) hva
    have _zwva2 : w.heap.size + 1 + 1 < wva.heap.size := size_lt (by first | (simp; done) | (simp; omega) | omega | (simp [World.setCell]; done) | (simp [World.setCell]; omega)) hva
    obtain ⟨_hcwvb, _hfwvb⟩ := bcell hvb
    have _zwvb0 : w.heap.size < wvb.heap.size := size_lt (by first | (simp; done) | (simp; omega) | omega | (simp [World.setCell]; done) | (simp [World.setCell]; omega)) hvb
    have _zwvb1 : w.heap.size + 1 < wvb.heap.size := size_lt (by first | (simp; done) | (simp; omega) | omega | (simp [World.setCell]; done) | (simp [World.setCell]; omega)) hvb
    have _zwvb2 : w.heap.size + 1 + 1 < wvb.heap.size := size_lt (by first | (simp; done) | (simp; omega) | omega | (simp [World.setCell]; done) | (simp [World.setCell]; omega)) hvb
    obtain ⟨_hcwr, _hfwr⟩ := bcell hra
    have _zwr0 : w.heap.size < wr.heap.size := size_lt (by first | (simp; done) | (simp; omega) | omega | (simp [World.setCell]; done) | (simp [World.setCell]; omega)) hra
    have _zwr1 : w.heap.size + 1 < wr.heap.size := size_lt (by first | (simp; done) | (simp; omega) | omega | (simp [World.setCell]; done) | (simp [World.setCell]; omega)) hra
    have _zwr2 : w.heap.size + 1 + 1 < wr.heap.size := size_lt (by first | (simp; done) | (simp; omega) | omega | (simp [World.setCell]; done) | (simp [World.setCell]; omega)) hra
    have _zwr3 : wva.heap.size < wr.heap.size := size_lt (by first | (simp; done) | (simp; omega) | omega | (simp [World.setCell]; done) | (simp [World.setCell]; omega)) hra
    obtain ⟨hcb, hfb⟩ := bcell hrb
    have zb : wvb.heap.size < wr.heap.size := size_lt (by first | (simp; done) | (simp; omega) | omega | (simp [World.setCell]; done) | (simp [World.setCell]; omega)) hrb
    have kr : Below w.heap.size w wr := by (repeat (first | with_reducible assumption | with_reducible exact Below.refl _ _ | with_reducible refine Below.drew ?_ | with_reducible refine below_drewN ?_ _ | with_reducible refine al ?_ _ | (with_reducible refine sc ?_ ?_; (focus (first | omega | (simp; done) | (simp; omega)))) | (with_reducible refine chain ?_ (by assumption))))
    go_upto_region 2 with (fail)
    have kw : Below w.heap.size w ((((((wr.setCell ⟨wva.heap.size, 0, none⟩ (.int .i64 A)).setCell ⟨wva.heap.size, 1, none⟩ (.int .i64 B)).setCell ⟨wva.heap.size, 2, none⟩ (.int .i64 C)).setCell ⟨wvb.heap.size, 0, none⟩ (.int .i64 D)).setCell ⟨wvb.heap.size, 1, none⟩ (.int .i64 E)).setCell ⟨wvb.heap.size, 2, none⟩ (.int .i64 F)) := by (repeat (first | with_reducible assumption | with_reducible exact Below.refl _ _ | with_reducible refine Below.drew ?_ | with_reducible refine below_drewN ?_ _ | with_reducible refine al ?_ _ | (with_reducible refine sc ?_ ?_; (focus (first | omega | (simp; done) | (simp; omega)))) | (with_reducible refine chain ?_ (by assumption))))
    have ca0 : ((((((wr.setCell ⟨wva.heap.size, 0, none⟩ (.int .i64 A)).setCell ⟨wva.heap.size, 1, none⟩ (.int .i64 B)).setCell ⟨wva.heap.size, 2, none⟩ (.int .i64 C)).setCell ⟨wvb.heap.size, 0, none⟩ (.int .i64 D)).setCell ⟨wvb.heap.size, 1, none⟩ (.int .i64 E)).setCell ⟨wvb.heap.size, 2, none⟩ (.int .i64 F)).cell? ⟨wva.heap.size, 0, none⟩ = some (.int .i64 A) := by go_simp
    have ca1 : ((((((wr.setCell ⟨wva.heap.size, 0, none⟩ (.int .i64 A)).setCell ⟨wva.heap.size, 1, none⟩ (.int .i64 B)).setCell ⟨wva.heap.size, 2, none⟩ (.int .i64 C)).setCell ⟨wvb.heap.size, 0, none⟩ (.int .i64 D)).setCell ⟨wvb.heap.size, 1, none⟩ (.int .i64 E)).setCell ⟨wvb.heap.size, 2, none⟩ (.int .i64 F)).cell? ⟨wva.heap.size, 1, none⟩ = some (.int .i64 B) := by go_simp
    have ca2 : ((((((wr.setCell ⟨wva.heap.size, 0, none⟩ (.int .i64 A)).setCell ⟨wva.heap.size, 1, none⟩ (.int .i64 B)).setCell ⟨wva.heap.size, 2, none⟩ (.int .i64 C)).setCell ⟨wvb.heap.size, 0, none⟩ (.int .i64 D)).setCell ⟨wvb.heap.size, 1, none⟩ (.int .i64 E)).setCell ⟨wvb.heap.size, 2, none⟩ (.int .i64 F)).cell? ⟨wva.heap.size, 2, none⟩ = some (.int .i64 C) := by go_simp
    have cb0 : ((((((wr.setCell ⟨wva.heap.size, 0, none⟩ (.int .i64 A)).setCell ⟨wva.heap.size, 1, none⟩ (.int .i64 B)).setCell ⟨wva.heap.size, 2, none⟩ (.int .i64 C)).setCell ⟨wvb.heap.size, 0, none⟩ (.int .i64 D)).setCell ⟨wvb.heap.size, 1, none⟩ (.int .i64 E)).setCell ⟨wvb.heap.size, 2, none⟩ (.int .i64 F)).cell? ⟨wvb.heap.size, 0, none⟩ = some (.int .i64 D) := by go_simp
    have cb1 : ((((((wr.setCell ⟨wva.heap.size, 0, none⟩ (.int .i64 A)).setCell ⟨wva.heap.size, 1, none⟩ (.int .i64 B)).setCell ⟨wva.heap.size, 2, none⟩ (.int .i64 C)).setCell ⟨wvb.heap.size, 0, none⟩ (.int .i64 D)).setCell ⟨wvb.heap.size, 1, none⟩ (.int .i64 E)).setCell ⟨wvb.heap.size, 2, none⟩ (.int .i64 F)).cell? ⟨wvb.heap.size, 1, none⟩ = some (.int .i64 E) := by go_simp
    have cb2 : ((((((wr.setCell ⟨wva.heap.size, 0, none⟩ (.int .i64 A)).setCell ⟨wva.heap.size, 1, none⟩ (.int .i64 B)).setCell ⟨wva.heap.size, 2, none⟩ (.int .i64 C)).setCell ⟨wvb.heap.size, 0, none⟩ (.int .i64 D)).setCell ⟨wvb.heap.size, 1, none⟩ (.int .i64 E)).setCell ⟨wvb.heap.size, 2, none⟩ (.int .i64 F)).cell? ⟨wvb.heap.size, 2, none⟩ = some (.int .i64 F) := by go_simp
    have cp0 : ((((((wr.setCell ⟨wva.heap.size, 0, none⟩ (.int .i64 A)).setCell ⟨wva.heap.size, 1, none⟩ (.int .i64 B)).setCell ⟨wva.heap.size, 2, none⟩ (.int .i64 C)).setCell ⟨wvb.heap.size, 0, none⟩ (.int .i64 D)).setCell ⟨wvb.heap.size, 1, none⟩ (.int .i64 E)).setCell ⟨wvb.heap.size, 2, none⟩ (.int .i64 F)).cell? ⟨w.heap.size + 1, 0, none⟩ = some (.int .i64 0) := by go_simp
    have cp1 : ((((((wr.setCell ⟨wva.heap.size, 0, none⟩ (.int .i64 A)).setCell ⟨wva.heap.size, 1, none⟩ (.int .i64 B)).setCell ⟨wva.heap.size, 2, none⟩ (.int .i64 C)).setCell ⟨wvb.heap.size, 0, none⟩ (.int .i64 D)).setCell ⟨wvb.heap.size, 1, none⟩ (.int .i64 E)).setCell ⟨wvb.heap.size, 2, none⟩ (.int .i64 F)).cell? ⟨w.heap.size + 1, 1, none⟩ = some (.int .i64 0) := by go_simp
    have cp2 : ((((((wr.setCell ⟨wva.heap.size, 0, none⟩ (.int .i64 A)).setCell ⟨wva.heap.size, 1, none⟩ (.int .i64 B)).setCell ⟨wva.heap.size, 2, none⟩ (.int .i64 C)).setCell ⟨wvb.heap.size, 0, none⟩ (.int .i64 D)).setCell ⟨wvb.heap.size, 1, none⟩ (.int .i64 E)).setCell ⟨wvb.heap.size, 2, none⟩ (.int .i64 F)).cell? ⟨w.heap.size + 1, 2, none⟩ = some (.int .i64 0) := by go_simp
    have cq0 : ((((((wr.setCell ⟨wva.heap.size, 0, none⟩ (.int .i64 A)).setCell ⟨wva.heap.size, 1, none⟩ (.int .i64 B)).setCell ⟨wva.heap.size, 2, none⟩ (.int .i64 C)).setCell ⟨wvb.heap.size, 0, none⟩ (.int .i64 D)).setCell ⟨wvb.heap.size, 1, none⟩ (.int .i64 E)).setCell ⟨wvb.heap.size, 2, none⟩ (.int .i64 F)).cell? ⟨w.heap.size + 1 + 1, 0, none⟩ = some (.int .i64 0) := by go_simp
    have cq1 : ((((((wr.setCell ⟨wva.heap.size, 0, none⟩ (.int .i64 A)).setCell ⟨wva.heap.size, 1, none⟩ (.int .i64 B)).setCell ⟨wva.heap.size, 2, none⟩ (.int .i64 C)).setCell ⟨wvb.heap.size, 0, none⟩ (.int .i64 D)).setCell ⟨wvb.heap.size, 1, none⟩ (.int .i64 E)).setCell ⟨wvb.heap.size, 2, none⟩ (.int .i64 F)).cell? ⟨w.heap.size + 1 + 1, 1, none⟩ = some (.int .i64 0) := by go_simp
    have cq2 : ((((((wr.setCell ⟨wva.heap.size, 0, none⟩ (.int .i64 A)).setCell ⟨wva.heap.size, 1, none⟩ (.int .i64 B)).setCell ⟨wva.heap.size, 2, none⟩ (.int .i64 C)).setCell ⟨wvb.heap.size, 0, none⟩ (.int .i64 D)).setCell ⟨wvb.heap.size, 1, none⟩ (.int .i64 E)).setCell ⟨wvb.heap.size, 2, none⟩ (.int .i64 F)).cell? ⟨w.heap.size + 1 + 1, 2, none⟩ = some (.int .i64 0) := by go_simp
    have fp : ∀ o, ((((((wr.setCell ⟨wva.heap.size, 0, none⟩ (.int .i64 A)).setCell ⟨wva.heap.size, 1, none⟩ (.int .i64 B)).setCell ⟨wva.heap.size, 2, none⟩ (.int .i64 C)).setCell ⟨wvb.heap.size, 0, none⟩ (.int .i64 D)).setCell ⟨wvb.heap.size, 1, none⟩ (.int .i64 E)).setCell ⟨wvb.heap.size, 2, none⟩ (.int .i64 F)).frozen? ⟨w.heap.size + 1, o, none⟩ = false := by go_simp
    have fq : ∀ o, ((((((wr.setCell ⟨wva.heap.size, 0, none⟩ (.int .i64 A)).setCell ⟨wva.heap.size, 1, none⟩ (.int .i64 B)).setCell ⟨wva.heap.size, 2, none⟩ (.int .i64 C)).setCell ⟨wvb.heap.size, 0, none⟩ (.int .i64 D)).setCell ⟨wvb.heap.size, 1, none⟩ (.int .i64 E)).setCell ⟨wvb.heap.size, 2, none⟩ (.int .i64 F)).frozen? ⟨w.heap.size + 1 + 1, o, none⟩ = false := by go_simp
    generalize ((((((wr.setCell ⟨wva.heap.size, 0, none⟩ (.int .i64 A)).setCell ⟨wva.heap.size, 1, none⟩ (.int .i64 B)).setCell ⟨wva.heap.size, 2, none⟩ (.int .i64 C)).setCell ⟨wvb.heap.size, 0, none⟩ (.int .i64 D)).setCell ⟨wvb.heap.size, 1, none⟩ (.int .i64 E)).setCell ⟨wvb.heap.size, 2, none⟩ (.int .i64 F)) = W at *
    clear hva hra hvb hrb hcb hfb zb kr _hcwva _hfwva _hcwvb _hfwvb _hcwr _hfwr hne hnf
    go_wp2_with fail
    refine bodyPost_ret (v := spanN) (by simp [results, Try.results36, go_sem, *]; done) rfl ⟨rfl, ?_⟩
    (repeat (first | with_reducible assumption | with_reducible exact Below.refl _ _ | with_reducible refine Below.drew ?_ | with_reducible refine below_drewN ?_ _ | with_reducible refine al ?_ _ | (with_reducible refine sc ?_ ?_; (focus (first | omega | (simp; done) | (simp; omega)))) | (with_reducible refine chain ?_ (by assumption))))
end Go.Proofs.Ytenpcmhfbbfpeaa
