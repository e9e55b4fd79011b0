/- Contracts of layer 6's reference (code): Same, Few. -/
import Derived.Test.YtkephcmjigfepaaK6B
import Derived.Test.YtkephcmjigfepaaC01
set_option linter.unusedVariables false
set_option linter.unusedSimpArgs false
namespace Go.Proofs.Ytkephcmjigfepaa
open Go.ChangeShapes Go.WideShapes Go.ChangeAt Go.RowKit
theorem byte_info : ∃ i, Try.prog.info? 5 = some i ∧ i.zero = some (.int .u8 0) ∧ i.size = 1 ∧ i.bytes = 1 := by
  obtain ⟨i, hi⟩ : ∃ i, Try.prog.info? 5 = some i := Option.isSome_iff_exists.1 (by kernel_rfl)
  have h : (Try.prog.info? 5).map (fun i => (i.zero, i.size, i.bytes)) = some (some (.int .u8 0), 1, 1) := by kernel_rfl
  rw [hi] at h
  simp at h
  exact ⟨i, hi, h.1, h.2.1, h.2.2⟩
theorem conv_byts {w : World} {v : Value} {l : List Int} (h : BytsAt w v l) : (convert 32 9 v).run Try.prog w = .ok (.string (strOfNums l)) w := by
  rcases h with ⟨⟨p, cap, rfl⟩, rfl⟩ | ⟨g, off, cap, rfl, hc, hg, hx⟩
  · cases p with
    | none => exact run_convert_bytes_nil w 32 5 Try.underlying32 Try.underlying5 0 cap 9 Try.underlying9
    | some a =>
      rw [run_convert_bytes_string w _ _ 5 _ 0 cap Try.underlying32 Try.underlying5 Try.underlying9]
      rw [run_bytesToString w a 0 cap [] (by simp [loadCells, go_sem])]
      rfl
  · exact run_convert_bytes_arg w 32 5 Try.underlying32 Try.underlying5 g off l.length cap l rfl (fun i hi => by rw [hx i hi]; simp [List.getD, hi]) 9 Try.underlying9
theorem r6_same (va vb : Value) (a b : List Int) (w : World) (ha : BytsAt w va a) (hb : BytsAt w vb b) (oa : bytOk a) (ob : bytOk b) : Calls Try.prog 22 #[va, vb] w fun e w' =>
    e = .returned (.bool (decide (a = b))) ∧ Below w.heap.size w w' := by
  have ca := conv_byts ha
  have cb := conv_byts hb
  have e0 : ((strOfNums a).toList == (strOfNums b).toList) = decide (a = b) := by
    rw [Bool.eq_iff_iff]
    simp only [beq_iff_eq, decide_eq_true_eq]
    exact ⟨strOfNums_inj oa ob, fun h => by rw [h]⟩
  obtain ⟨q, hq⟩ : ∃ q, decide (a = b) = q := ⟨_, rfl⟩
  rw [hq] at e0 ⊢
  obtain ⟨pa, ka, rfl⟩ := ha.shape
  obtain ⟨pb, kb, rfl⟩ := hb.shape
  obtain ⟨X, hX⟩ : ∃ X, strOfNums a = X := ⟨_, rfl⟩
  obtain ⟨Y, hY⟩ : ∃ Y, strOfNums b = Y := ⟨_, rfl⟩
  rw [hX] at ca e0
  rw [hY] at cb e0
  obtain ⟨n, hn⟩ : ∃ n, a.length = n := ⟨_, rfl⟩
  obtain ⟨m, hm⟩ : ∃ m, b.length = m := ⟨_, rfl⟩
  rw [hn] at ca ⊢
  rw [hm] at cb ⊢
  clear hX hY hn hm hq ha hb oa ob
  go_enter Try.func22, Try.ntmps22
  go_wp2
  go_ret
  exact ⟨ret_bool (by first | exact e0 | (simp [*]; done) | simpa using e0), by (repeat (first | with_reducible assumption | with_reducible exact Below.refl _ _ | with_reducible refine Below.drew ?_ | with_reducible refine below_drewN ?_ _ | with_reducible refine al ?_ _ | (with_reducible refine sc ?_ ?_; (focus (first | omega | (simp; done) | (simp; omega)))) | (with_reducible refine chain ?_ (by assumption))))⟩
theorem r6_few (v : Value) (l : List Int) (M : Nat) (w : World) (hl : BytsAt w v l) (hL : l.length ≤ maxLen) (hM : M ≤ 100000) : Calls Try.prog 15 #[v, .int .i64 M] w fun e w' =>
    ∃ p cap, e = .returned (.slice p (l.take M).length cap) ∧ BytsAt w' (.slice p (l.take M).length cap) (l.take M) ∧ Below w.heap.size w w' := by
  obtain ⟨p, cap, rfl, hf⟩ := hl.form
  have hf2 : 0 < l.length → ∃ g off, p = some ⟨g, off, none⟩ ∧ l.length ≤ cap := fun h => by
    obtain ⟨g, off, e, hc, _⟩ := hf h
    exact ⟨g, off, e, hc⟩
  clear hf
  obtain ⟨N, hN⟩ : ∃ N, l.length = N := ⟨_, rfl⟩
  rw [hN] at hl hf2 hL ⊢
  unfold maxLen at hL
  by_cases h : (M : Int) < N
  · obtain ⟨g, off, rfl, hc⟩ := hf2 (by omega)
    have ht := hl.take (k := M) (by omega)
    have hlen : (l.take M).length = M := by simp; omega
    rw [hlen]
    have hc2 : (M : Int) ≤ cap := by omega
    have HT := Lib.hid ht
    clear hl hf2 ht hlen hN
    go_enter Try.func15, Try.ntmps15
    go_wp2
    go_ret
    exact ⟨_, _, rfl, HT.out, by (repeat (first | with_reducible assumption | with_reducible exact Below.refl _ _ | with_reducible refine Below.drew ?_ | with_reducible refine below_drewN ?_ _ | with_reducible refine al ?_ _ | (with_reducible refine sc ?_ ?_; (focus (first | omega | (simp; done) | (simp; omega)))) | (with_reducible refine chain ?_ (by assumption))))⟩
  · have e : l.take M = l := List.take_of_length_le (by omega)
    rw [e, hN]
    have HL := Lib.hid hl
    clear hl hf2 e hN
    go_enter Try.func15, Try.ntmps15
    go_wp2
    go_ret
    exact ⟨_, _, rfl, HL.out, by (repeat (first | with_reducible assumption | with_reducible exact Below.refl _ _ | with_reducible refine Below.drew ?_ | with_reducible refine below_drewN ?_ _ | with_reducible refine al ?_ _ | (with_reducible refine sc ?_ ?_; (focus (first | omega | (simp; done) | (simp; omega)))) | (with_reducible refine chain ?_ (by assumption))))⟩
end Go.Proofs.Ytkephcmjigfepaa
