/- Contracts of layer 5's reference (runs): Cells. -/
import Derived.Test.YtafmekojdaeliaaDoorR40
import Derived.Test.YtafmekojdaeliaaDoorK05
set_option linter.unusedVariables false
set_option linter.unusedSimpArgs false
namespace Go.Proofs.YtafmekojdaeliaaDoor
open Go.ChangeShapes Go.WideShapes Go.ChangeAt Go.RowKit
/-- Facts of the types, as the appends ask them. -/
theorem int_info : ∃ i, Tryd.prog.info? 3 = some i ∧ i.zero = some (.int .i64 0) ∧ i.size = 1 ∧ i.bytes = 8 := by
  obtain ⟨i, hi⟩ : ∃ i, Tryd.prog.info? 3 = some i := Option.isSome_iff_exists.1 (by kernel_rfl)
  have h : (Tryd.prog.info? 3).map (fun i => (i.zero, i.size, i.bytes)) = some (some (.int .i64 0), 1, 8) := by kernel_rfl
  rw [hi] at h
  simp at h
  exact ⟨i, hi, h.1, h.2.1, h.2.2⟩
set_option maxHeartbeats 4000000 in
theorem r5_cells (v : Value) (l : List Run) (w : World) (hl : RunsAt w v l) (hT : (cellsF l).length ≤ 100000) (hL : l.length ≤ 100000) : Calls Tryd.prog 14 #[v] w fun e w' =>
    ∃ v', e = .returned v' ∧ w'.ownsRow w.heap.size 3 1 v' (cellsF l).length (intVs (cellsF l)) ∧ Below w.heap.size w w' := by
  obtain ⟨i0, hi, hz, hsz, hby⟩ := int_info
  rcases hl with ⟨⟨p0, c0, rfl⟩, rfl⟩ | ⟨g, off, cap, rfl, hc, hg, hx⟩
  · go_enter Tryd.func14, Tryd.ntmps14
    go_wp2_with fail
    refine wp_loop_rounds 1 ?_
    rw [rounds_succ]
    go_wp2_with fail
    go_ret
    exact ⟨_, rfl, World.ownsRow_nil _ _ _ _, by (repeat (first | with_reducible assumption | with_reducible exact Below.refl _ _ | with_reducible refine Below.drew ?_ | with_reducible refine below_drewN ?_ _ | with_reducible refine al ?_ _ | (with_reducible refine sc ?_ ?_; (focus (first | omega | (simp; done) | (simp; omega)))) | (with_reducible refine chain ?_ (by assumption))))⟩
  · obtain ⟨N, hN⟩ : ∃ N, l.length = N := ⟨_, rfl⟩
    have HX := Lib.hid hx
    have HN := Lib.hid hN
    rw [hN] at hc hL ⊢
    clear hx hN
    go_enter Tryd.func14, Tryd.ntmps14
    go_wp2_with fail
    go_loopw [3, 4] (fun o i wr => ∃ k : Nat, k ≤ N ∧ i = .int .i64 k ∧ wr.ownsRow w.heap.size 3 1 o (cellsF (l.take k)).length (intVs (cellsF (l.take k))) ∧ Below w.heap.size w wr) (fun _ i _ => N - (intOf i).toNat)
    case atStart => exact ⟨0, by omega, rfl, World.ownsRow_nil _ _ _ _, by (repeat (first | with_reducible assumption | with_reducible exact Below.refl _ _ | with_reducible refine Below.drew ?_ | with_reducible refine below_drewN ?_ _ | with_reducible refine al ?_ _ | (with_reducible refine sc ?_ ?_; (focus (first | omega | (simp; done) | (simp; omega)))) | (with_reducible refine chain ?_ (by assumption))))⟩
    case round =>
      obtain ⟨k, hk, rfl, ho, kw⟩ := hrel
      by_cases hlt : k < N
      · obtain ⟨h1, h2⟩ := HX.out k (by rw [HN.out]; exact hlt)
        have hs := cellsF_take_succ l k (by rw [HN.out]; exact hlt)
        obtain ⟨n, hn⟩ : ∃ n, (l[k]'(by rw [HN.out]; exact hlt)).1 = n := ⟨_, rfl⟩
        obtain ⟨b, hb⟩ : ∃ n, (l[k]'(by rw [HN.out]; exact hlt)).2 = n := ⟨_, rfl⟩
        rw [hn] at h1
        rw [hb] at h2
        rw [hn, hb] at hs
        have hle := cellsF_take_le l (k + 1)
        rw [hs, List.length_append, List.length_replicate] at hle
        clear hn hb
        obtain ⟨C, hC⟩ : ∃ C, cellsF (l.take k) = C := ⟨_, rfl⟩
        rw [hC] at ho hs hle
        have HS := Lib.hid hs
        have H1 := Lib.hid h1
        have H2 := Lib.hid h2
        clear hs h1 h2 hC
        go_wp2_with fail
        go_loopw [3, 5] (fun o j ws => ∃ m : Nat, m ≤ n.toNat ∧ j = .int .i64 m ∧ ws.ownsRow w.heap.size 3 1 o (C.length + m) (intVs (C ++ List.replicate m b)) ∧ Below w.heap.size w ws) (fun _ j _ => n.toNat - (intOf j).toNat)
        case atStart => exact ⟨0, by omega, rfl, by simpa using ho, kw⟩
        case round =>
          clear ho kw
          obtain ⟨m, hm, rfl, ho, kw⟩ := hrel
          have c1 : wr.cell? ⟨g, off + k * 2, none⟩ = some (.int .i64 n) := keepc kw hg H1.out
          have c2 : wr.cell? ⟨g, off + k * 2 + 1, none⟩ = some (.int .i64 b) := keepc kw hg H2.out
          have zg : g < wr.heap.size := Nat.lt_of_lt_of_le hg kw.size
          by_cases hmn : (m : Int) < n
          · go_wp2_with (at_builtin; refine app_int _ rfl _ _ 32 rfl w.heap.size 3 i0 _ Tryd.underlying32 hi hz hsz hby rfl _ _ _ rfl (ho.alloc _) wr.heap.size (.int .i64 b) rfl (by go_simp) rfl (by omega) (by have := kw.size; simp; omega) ?_; intro v1 w1 ho1 hg1)
            go_roundw
            case rel =>
              exact ⟨m + 1, by omega, by go_num, by rw [List.replicate_succ', ← List.append_assoc, intVs, List.map_append]; exact ho1, Below.own (al kw _) (ho.alloc _) hg1⟩
            case measure => simp [intOf]; omega
          · obtain rfl : m = n.toNat := by omega
            go_wp2_with fail
            go_roundw
            case rel => exact ⟨k + 1, by omega, by go_num, by rw [HS.out, List.length_append, List.length_replicate]; exact ho, kw⟩
            case measure => simp [intOf]; omega
      · obtain rfl : k = N := by omega
        have e : l.take k = l := by rw [← HN.out, List.take_length]
        rw [e] at ho
        clear e
        go_wp2_with fail
        go_ret
        exact ⟨_, rfl, ho, by (repeat (first | with_reducible assumption | with_reducible exact Below.refl _ _ | with_reducible refine Below.drew ?_ | with_reducible refine below_drewN ?_ _ | with_reducible refine al ?_ _ | (with_reducible refine sc ?_ ?_; (focus (first | omega | (simp; done) | (simp; omega)))) | (with_reducible refine chain ?_ (by assumption))))⟩
end Go.Proofs.YtafmekojdaeliaaDoor
