/- Texts behind each other. -/
import Derived.Test.YthjekbbldejlpaaRows
import Derived.Test.YthjekbbldejlpaaZ04
import Derived.Test.YthjekbbldejlpaaZ22
import Derived.Test.YthjekbbldejlpaaZ21
import Derived.Lib.LaidTab
import Derived.MakeChecks
import Derived.Test.YthjekbbldejlpaaZ11
import Derived.Lib.AppendZeros
/- The package-level variables that the rows list: what a walk reads of them. -/
set_option linter.unusedVariables false
set_option linter.unusedSimpArgs false
namespace Go.Proofs.Ythjekbbldejlpaa
open Go Go.RowKit
theorem reads_of_laid {P : Program} {w : World} : ∀ {l : List (String × DataW Unit)} {ps : List MemPlace}, DataW.LaidVars P w l ps → ∀ n d, (n, d) ∈ l →
    ∃ g t cs fuel p, P.globalNamed n = some g ∧ (P.globals[g]?).map (·.type) = some t ∧ w.var? P n = some cs ∧ DataW.trod (fun _ => ()) P w 0 (fun _ => true) false fuel t cs.toList = some (d, p) ∧ ∀ i, i < cs.size → MemPlace.cell g i ∈ ps
  | [], _, _, _, _, hm => by cases hm
  | (n', d') :: r, ps, h, n, d, hm => by
    obtain ⟨g, t, cs, fuel, p, q, h1, h2, h3, h4, h5, h6⟩ := h
    rcases List.mem_cons.1 hm with e | e
    · cases e
      refine ⟨g, t, cs, fuel, p, h1, h2, h3, h4, fun i hi => ?_⟩
      rw [h6]
      refine List.mem_append.2 (.inl (List.mem_append.2 (.inl ?_)))
      unfold MemPlace.row
      exact List.mem_map.2 ⟨i, List.mem_range.2 hi, by simp⟩
    · obtain ⟨g', t', cs', fuel', p', a, b, c, d2, e2⟩ := reads_of_laid h5 n d e
      exact ⟨g', t', cs', fuel', p', a, b, c, d2, fun i hi => by rw [h6]; exact List.mem_append.2 (.inr (e2 i hi))⟩
/-- A listed variable's block, whole: its cells read as the datum. -/
theorem row_of_laid {P : Program} {w : World} {l : List (String × DataW Unit)} (hp : (l.all fun x => x.2.handleName?.isNone) = true) (h : laidMetH P l w) {n : String} {d : DataW Unit} (hm : (n, d) ∈ l) {g : Nat} {t : TypeId}
    (hg : P.globalNamed n = some g) (ht : (P.globals[g]?).map (·.type) = some t) (hc : 0 < P.cellsOf t) (hsz : ∀ cs fuel p, DataW.trod (fun _ => ()) P w 0 (fun _ => true) false fuel t cs = some (d, p) → 0 < cs.length) :
    ∃ cs fuel p T, RowAt w g cs T ∧ DataW.trod (fun _ => ()) P w 0 (fun _ => true) false fuel t cs.toList = some (d, p) := by
  rw [MakeChecks.laidMetH_plain _ _ _ hp] at h
  obtain ⟨ps, hv, _, hb⟩ := h
  obtain ⟨g', t', cs, fuel, p, e1, e2, e3, e4, e5⟩ := reads_of_laid hv n d hm
  obtain rfl := Option.some.inj (hg.symm.trans e1)
  obtain rfl := Option.some.inj (ht.symm.trans e2)
  obtain ⟨⟨c, T, hT⟩, _⟩ := hb g 0 (e5 0 (by simpa using hsz _ _ _ e4))
  refine ⟨cs, fuel, p, T, ?_, e4⟩
  unfold World.var? at e3
  rw [e1] at e3
  simp only [Option.bind_some, hT] at e3
  unfold RowAt
  rw [hT]
  simpa using e3
theorem cells_of_strs {H : Type} {enc : TypeId × Value → H} {P : Program} {w : World} {base : Nat} {sp : Nat → Bool} {held : Bool} {fuel : Nat} {t e : TypeId} {n : Nat} {cs : List Value} {zs : List (List UInt8)} {p : List MemPlace}
    (ht : P.underlying t = some (.array n e)) (he : P.underlying e = some .string) (hce : P.cellsOf e = 1) (hct : P.cellsOf t = n)
    (h : DataW.trod enc P w base sp held fuel t cs = some (.agg (zs.map fun z => .lit (.string z)), p)) : cs = zs.map fun z => Value.string ⟨⟨z⟩⟩ := by
  cases fuel with
  | zero => simp [DataW.trod] at h
  | succ fuel =>
    simp only [DataW.trod, ht, hce, hct, Nat.mul_one] at h
    split at h
    · rename_i hl
      obtain ⟨xs, hm, hx⟩ := Option.map_eq_some_iff.1 h
      have hxs : xs.map (·.1) = zs.map fun z => (DataW.lit (.string z) : DataW H) := by
        have := congrArg Prod.fst hx
        simpa using this
      have hxl : xs.length = n := by simpa using Lib.mapM_length hm
      have hzl : zs.length = n := by
        have := congrArg List.length hxs
        simp at this
        omega
      apply List.ext_getElem?
      intro i
      by_cases hi : i < n
      · obtain ⟨b, hb, hf⟩ := Lib.mapM_at hm i i (by simp [hi])
        obtain ⟨z, hc, rfl, _⟩ := DataW.trod_string he hf
        have h1 : cs[i]? = some (.string z) := by
          have := congrArg (·[0]?) hc
          simpa [List.getElem?_take, List.getElem?_drop] using this
        have h2 : (xs.map (·.1))[i]? = some (DataW.lit (.string z.data.toList) : DataW H) := by simp [hb]
        rw [hxs] at h2
        simp only [List.getElem?_map, Option.map_eq_some_iff, DataW.lit.injEq, Lit.string.injEq] at h2
        obtain ⟨z', hz', rfl⟩ := h2
        simp [h1, hz']
      · rw [List.getElem?_eq_none (by omega), List.getElem?_eq_none (by simp; omega)]
    · cases h
/-- The blocks' names, as their variable holds them. -/
def namesRow : Array Value := #[.string (nameF 0), .string (nameF 1), .string (nameF 2), .string (nameF 3), .string (nameF 4), .string (nameF 5), .string (nameF 6), .string (nameF 7), .string (nameF 8), .string (nameF 9), .string (nameF 10), .string (nameF 11), .string (nameF 12), .string (nameF 13), .string (nameF 14), .string (nameF 15)]
theorem namesRow_at : ∀ k : Nat, k < 16 → namesRow[k]? = some (.string (nameF k))
  | 0, _ | 1, _ | 2, _ | 3, _ | 4, _ | 5, _ | 6, _ | 7, _ | 8, _ | 9, _ | 10, _ | 11, _ | 12, _ | 13, _ | 14, _ | 15, _ => rfl
  | n + 16, h => absurd h (by omega)
structure Vars (w : World) : Prop where
  none : True
theorem Vars.keep {w w' : World} (h : Vars w) (hb : Below w.heap.size w w') : Vars w' := ⟨trivial⟩
end Go.Proofs.Ythjekbbldejlpaa
/- Contracts of layer 7 (crc), of the landed code: steps, and what fills them. -/
set_option linter.unusedVariables false
set_option linter.unusedSimpArgs false
namespace Go.Proofs.Ythjekbbldejlpaa
open Go.ChangeShapes Go.WideShapes Go.ChangeAt Go.RowKit
theorem w16_bd (c : W16) : (0 : Int) ≤ (c.toNat : Int) ∧ (c.toNat : Int) ≤ 65535 := by have := c.isLt; omega
set_option maxRecDepth 10000 in
set_option maxHeartbeats 4000000 in
theorem b7_fill (h : Nat) (hh : h < 16) (tb : Nat) (cs : Array Value) (T : TypeId) (hc : cs.size = 16) (w : World) (hr : RowAt w tb cs T) : Calls Try.prog 76 #[.int .u16 h, .pointer (some ⟨tb, 0, none⟩)] w fun e w' => e = .returned (.tuple #[]) ∧ w' = w.setCell ⟨tb, h, none⟩ (.int .u16 ((tab4 h).toNat : Int)) := by
  obtain ⟨D, hD⟩ : ∃ D, BitVec.ofNat 16 (h * 4096) = D := ⟨_, rfl⟩
  have hDn : D.toNat = h * 4096 := by rw [← hD, BitVec.toNat_ofNat]; omega
  have hT : tab4 h = iterB 4 D := by rw [← hD]; rfl
  rw [hT]
  have cc := hr.cell h
  have cf := hr.frozen h
  obtain ⟨x0, hx0⟩ : ∃ x, cs[h]? = some x := ⟨_, Array.getElem?_eq_getElem (by omega)⟩
  rw [hx0] at cc
  have hw : IntKind.u16.wrap ((h : Int) * 4096) = (h : Int) * 4096 := by show _ % 65536 = _; omega
  have hD2 : (h : Int) * 4096 = ((iterB 0 D).toNat : Int) := by show _ = (D.toNat : Int); omega
  have HD := Lib.hid hD2
  have hb : (h : Int) < 16 := by omega
  clear hT hD hDn hx0 hD2
  go_enter Try.func76, Try.ntmps76
  go_wp2_with fail
  go_loop [3, 4, 7] (fun x o i => ∃ m : Nat, m ≤ 4 ∧ i = .int .i64 m ∧ x = .int .u16 ((iterB m D).toNat : Int)) (fun _ _ i => 4 - (intOf i).toNat)
  case atStart => exact ⟨0, by omega, rfl, by rw [← HD.out]⟩
  case round =>
    obtain ⟨m, hm, rfl, rfl⟩ := hrel
    by_cases hm4 : m < 4
    · have hn : (iterB (m + 1) D).toNat = _ := stB_nat (iterB m D)
      have hlt := (iterB m D).isLt
      obtain ⟨x, hx⟩ : ∃ x, (iterB m D).toNat = x := ⟨_, rfl⟩
      rw [hx] at hn hlt ⊢
      obtain ⟨y, hy⟩ : ∃ y, (iterB (m + 1) D).toNat = y := ⟨_, rfl⟩
      rw [hy] at hn
      have HY := Lib.hid hy
      have hlt2 : x < 65536 := hlt
      clear hx hy hlt
      obtain ⟨X, hX⟩ : ∃ X : Int, (x : Int) = X := ⟨_, rfl⟩
      obtain ⟨Y, hY⟩ : ∃ Y : Int, (y : Int) = Y := ⟨_, rfl⟩
      have two : (X / 32768 = 1 ∧ IntKind.u16.wrap (X * 2) = X * 2 - 65536 ∧ bits .xor .u16 (X * 2 - 65536) 4129 = Y) ∨ (X / 32768 = 0 ∧ IntKind.u16.wrap (X * 2) = Y) := by
        subst hX
        subst hY
        by_cases h6 : 65536 ≤ x * 2
        · rw [if_pos h6] at hn
          left
          refine ⟨by omega, by show _ % 65536 = _; omega, ?_⟩
          rw [show (x : Int) * 2 - 65536 = ((x * 2 - 65536 : Nat) : Int) by omega, show (4129 : Int) = ((4129 : Nat) : Int) from rfl, u16_xor4 _ _ (by omega) (by omega), ← hn]
        · rw [if_neg h6] at hn
          right
          exact ⟨by omega, by show _ % 65536 = _; omega⟩
      have X0 : 0 ≤ X := by omega
      have X1 : X ≤ 65535 := by omega
      rw [hX]
      have HYI := Lib.hid hY
      clear hn hlt2 hX hY
      rcases two with ⟨h6, hxr, hx2⟩ | ⟨h6, hy2⟩
      · have h7 : ¬ X / 32768 = 0 := by omega
        go_wp2_with fail
        go_round
        case rel => exact ⟨m + 1, by omega, by go_num, by rw [HY.out, HYI.out]⟩
        case measure => simp [intOf]; omega
      · have h7 : ¬ X / 32768 = 1 := by omega
        go_wp2_with fail
        go_round
        case rel => exact ⟨m + 1, by omega, by go_num, by rw [HY.out, HYI.out]⟩
        case measure => simp [intOf]; omega
    · obtain rfl : m = 4 := by omega
      obtain ⟨R, hR⟩ : ∃ R, ((iterB 4 D).toNat : Int) = R := ⟨_, rfl⟩
      rw [hR]
      go_wp2_with fail
      exact bodyPost_end (v := .tuple #[]) (by simp [results, Try.results76, go_sem]) rfl ⟨rfl, rfl⟩
/-- What half a byte's steps turn a word by, by its highest bits. -/
def tabAt (k : Nat) : Value := .int .u16 ((tab4 k).toNat : Int)
def tabRow : Array Value := #[tabAt 0, tabAt 1, tabAt 2, tabAt 3, tabAt 4, tabAt 5, tabAt 6, tabAt 7, tabAt 8, tabAt 9, tabAt 10, tabAt 11, tabAt 12, tabAt 13, tabAt 14, tabAt 15]
theorem tabRow_at : ∀ k : Nat, k < 16 → tabRow[k]? = some (tabAt k)
  | 0, _ | 1, _ | 2, _ | 3, _ | 4, _ | 5, _ | 6, _ | 7, _ | 8, _ | 9, _ | 10, _ | 11, _ | 12, _ | 13, _ | 14, _ | 15, _ => rfl
  | n + 16, h => absurd h (by omega)
theorem tabRow_all {cs : Array Value} (hc : cs.size = 16) (h : ∀ k, k < 16 → cs[k]? = some (tabAt k)) : cs = tabRow := by
  apply Array.ext_getElem?
  intro i
  by_cases hi : i < 16
  · rw [h i hi, tabRow_at i hi]
  · rw [Array.getElem?_eq_none (by omega), Array.getElem?_eq_none (by show 16 ≤ i; omega)]
set_option maxRecDepth 10000 in
set_option maxHeartbeats 4000000 in
theorem b7_steps (w : World) : Calls Try.prog 72 #[] w fun e w' => e = .returned (.agg tabRow) ∧ Below w.heap.size w w' := by
  have i16 : (Try.prog.info? 118).map (·.size) = some 16 := by kernel_rfl
  go_enter Try.func72, Try.ntmps72
  go_wp2_with fail
  go_loopw [3, 5] (fun _ i wr => ∃ (k : Nat) (cs : Array Value), k ≤ 16 ∧ i = .int .u16 k ∧ cs.size = 16 ∧ RowAt wr (w.heap.size + 1) cs 118 ∧ (∀ j, j < k → cs[j]? = some (tabAt j)) ∧ RowAt wr w.heap.size (Array.replicate 16 (.int .u16 0)) 118 ∧ Below w.heap.size w wr) (fun _ i _ => 16 - (intOf i).toNat)
  case atStart => exact ⟨0, Array.replicate 16 (.int .u16 0), by omega, rfl, rfl, RowAt.make _ _ _ (by simp), fun j hj => absurd hj (by omega), RowAt.alloc (RowAt.new _ _ _) _, by (repeat (first | with_reducible assumption | with_reducible exact Below.refl _ _ | with_reducible refine Below.drew ?_ | with_reducible refine below_drewN ?_ _ | with_reducible refine al ?_ _ | (with_reducible refine sc ?_ ?_; (focus (first | omega | (simp; done) | (simp; omega)))) | (with_reducible refine chain ?_ (by assumption))))⟩
  case round =>
    obtain ⟨k, cs, hk, rfl, hcs, hr, ht, hr0, kw⟩ := hrel
    by_cases hlt : k < 16
    · have hki : (k : Int) < 16 := by omega
      have wk : IntKind.u16.wrap ((k : Int) + 1) = (k : Int) + 1 := by show _ % 65536 = _; omega
      go_wp2_with fail
      refine (b7_fill k hlt (w.heap.size + 1) cs _ hcs _ hr).mono ?_
      rintro e w1 ⟨rfl, rfl⟩
      have hr1 := hr.set k (.int .u16 ((tab4 k).toNat : Int))
      have hr01 := hr0.other (p := ⟨w.heap.size + 1, k, none⟩) (by show ¬ w.heap.size = w.heap.size + 1; omega) (.int .u16 ((tab4 k).toNat : Int))
      have kw1 : Below w.heap.size w (wr.setCell ⟨w.heap.size + 1, k, none⟩ (.int .u16 ((tab4 k).toNat : Int))) := sc (by show w.heap.size ≤ w.heap.size + 1; omega) kw
      generalize wr.setCell ⟨w.heap.size + 1, k, none⟩ (.int .u16 ((tab4 k).toNat : Int)) = w2 at *
      go_wp2_with fail
      go_roundw
      case rel =>
        refine ⟨k + 1, _, by omega, by go_num, by simpa using hcs, hr1, fun j hj => ?_, hr01, kw1⟩
        by_cases hjk : j = k
        · subst hjk
          simp [hcs, hlt, tabAt]
        · rw [Array.getElem?_setIfInBounds_ne (by omega)]
          exact ht j (by omega)
      case measure => simp [intOf]; omega
    · obtain rfl : k = 16 := by omega
      obtain rfl := tabRow_all hcs ht
      go_wp2_with (first | refine wpList_load_row rfl 118 _ rfl (w.heap.size + 1) rfl _ _ _ _ hr Try.underlying118 rfl i16 ?_ | refine wpList_store_row rfl 118 _ _ rfl w.heap.size tabRow rfl rfl _ _ hr0 i16 rfl (by simp [tabRow, tabAt, Value.oneCell']) ?_)
      exact bodyPost_ret (v := .agg tabRow) (results_cell_row rfl _ _ w.heap.size _ _ _ _ rfl (hr0.row _) Try.underlying118 rfl i16) rfl ⟨rfl, below_setRow kw (by omega) _⟩
end Go.Proofs.Ythjekbbldejlpaa
/- Contracts of layer 7 (crc), of the landed code: With. -/
set_option linter.unusedVariables false
set_option linter.unusedSimpArgs false
namespace Go.Proofs.Ythjekbbldejlpaa
open Go.ChangeShapes Go.WideShapes Go.ChangeAt Go.RowKit
theorem half_int (C : W16) (x : Nat) (hx : x < 16) : ∃ (A B : Int) (k : Nat), k < 16 ∧ IntKind.u16.wrap ((C.toNat : Int) * 16) = A ∧ IntKind.u8.wrap ((C.toNat : Int) / 4096) = B ∧ bits .xor .u8 B (x : Int) = (k : Int) ∧ bits .xor .u16 A ((tab4 k).toNat : Int) = ((hsF C x).toNat : Int) := by
  have hl := C.isLt
  refine ⟨(((C <<< 4).toNat : Nat) : Int), ((C.toNat / 4096 : Nat) : Int), (C.toNat / 4096) ^^^ x, ?_, ?_, ?_, ?_, ?_⟩
  · exact Nat.xor_lt_two_pow (n := 4) (by omega) (by omega)
  · rw [BitVec.toNat_shiftLeft, Nat.shiftLeft_eq]
    show _ % 65536 = _
    omega
  · show _ % 256 = _
    omega
  · exact u8_xor4 _ _ (by omega) (by omega)
  · rw [u16_xor4 _ _ (C <<< 4).isLt (tab4 _).isLt]
    rfl
set_option maxRecDepth 10000 in
set_option maxHeartbeats 8000000 in
theorem b7_withN (c : W16) (v : Value) (l : List Int) (w : World) (hl : BytsAt w v l) (ok : bytOk l) (hL : l.length ≤ 100000) : Calls Try.prog 67 #[.int .u16 (c.toNat : Int), v] w fun e w' => e = .returned (.int .u16 ((sumV c l).toNat : Int)) ∧ Below w.heap.size w w' := by
  have i16 : (Try.prog.info? 118).map (·.size) = some 16 := by kernel_rfl
  have ix0 : ∀ (x0 x1 : Int) (w : World), (Instr.index 94 (.agg #[.int .u8 x0, .int .u8 x1]) (.int .i64 0)).run Try.prog w = .ok (.int .u8 x0) w := fun _ _ _ => by kernel_rfl
  have ix1 : ∀ (x0 x1 : Int) (w : World), (Instr.index 94 (.agg #[.int .u8 x0, .int .u8 x1]) (.int .i64 1)).run Try.prog w = .ok (.int .u8 x1) w := fun _ _ _ => by kernel_rfl
  obtain ⟨p, cap, rfl, hf⟩ := hl.form
  obtain ⟨N, hN⟩ : ∃ N, l.length = N := ⟨_, rfl⟩
  have HN := Lib.hid hN
  have HF := Lib.hid hf
  have OK := Lib.hid ok
  rw [hN] at hL ⊢
  have hs : ∀ k (h : k < l.length), sumV c (l.take (k + 1)) = stepV (sumV c (l.take k)) l[k] := fun k h => by rw [take_succ_get l k h, sumV_append]; rfl
  have HS := Lib.hid hs
  obtain ⟨R, hR⟩ : ∃ R, sumV c l = R := ⟨_, rfl⟩
  have HR := Lib.hid hR
  obtain ⟨c0, hc0⟩ : ∃ x : Int, (c.toNat : Int) = x := ⟨_, rfl⟩
  have HC0 := Lib.hid hc0
  rw [hR, hc0]
  clear hN hf ok hs hl hR hc0
  go_enter Try.func67, Try.ntmps67
  go_wp2_with fail
  refine (b7_steps _).mono ?_
  rintro e w1 ⟨rfl, hb1⟩
  go_upto_region 2 with (refine wpList_store_row rfl 118 _ _ rfl w1.heap.size tabRow rfl rfl _ _ (RowAt.new _ _ _) i16 rfl (by simp [tabRow, tabAt, Value.oneCell']) ?_)
  have rt := (RowAt.new w1 #[.int .u16 0, .int .u16 0, .int .u16 0, .int .u16 0, .int .u16 0, .int .u16 0, .int .u16 0, .int .u16 0, .int .u16 0, .int .u16 0, .int .u16 0, .int .u16 0, .int .u16 0, .int .u16 0, .int .u16 0, .int .u16 0] 118).row tabRow
  have k2 : Below w.heap.size w ((w1.alloc (.cells #[.int .u16 0, .int .u16 0, .int .u16 0, .int .u16 0, .int .u16 0, .int .u16 0, .int .u16 0, .int .u16 0, .int .u16 0, .int .u16 0, .int .u16 0, .int .u16 0, .int .u16 0, .int .u16 0, .int .u16 0, .int .u16 0] 118)).setRow w1.heap.size tabRow) := below_setRow (al hb1 _) hb1.size _
  generalize (w1.alloc (.cells #[.int .u16 0, .int .u16 0, .int .u16 0, .int .u16 0, .int .u16 0, .int .u16 0, .int .u16 0, .int .u16 0, .int .u16 0, .int .u16 0, .int .u16 0, .int .u16 0, .int .u16 0, .int .u16 0, .int .u16 0, .int .u16 0] 118)).setRow w1.heap.size tabRow = w2 at *
  clear hb1
  have ct := rt.cell
  obtain ⟨tb, htb⟩ : ∃ b, w1.heap.size = b := ⟨_, rfl⟩
  rw [htb] at ct ⊢
  have CT : ∀ k : Nat, k < 16 → w2.cell? ⟨tb, k, none⟩ = some (.int .u16 ((tab4 k).toNat : Int)) := fun k hk => (ct k).trans (tabRow_at k hk)
  have HCT := Lib.hid CT
  clear ct CT rt htb
  go_wp2_with fail
  go_loop [0, 13] (fun x i => ∃ k : Nat, k ≤ N ∧ i = .int .i64 k ∧ x = .int .u16 ((sumV c (l.take k)).toNat : Int)) (fun _ i => N - (intOf i).toNat)
  case atStart => exact ⟨0, by omega, rfl, by rw [← HC0.out]; rfl⟩
  case round =>
    obtain ⟨k, hk, rfl, rfl⟩ := hrel
    by_cases hlt : k < N
    · obtain ⟨g, off, rfl, hc, hgg, hx⟩ := HF.out (by rw [HN.out]; omega)
      have h1 := hx k (by rw [HN.out]; exact hlt)
      have hst := HS.out k (by rw [HN.out]; exact hlt)
      obtain ⟨b0, b1⟩ := OK.out (l[k]'(by rw [HN.out]; exact hlt)) (List.getElem_mem _)
      obtain ⟨b, hb⟩ : ∃ x, (l[k]'(by rw [HN.out]; exact hlt)) = x := ⟨_, rfl⟩
      rw [hb] at h1 hst b0 b1
      rw [step_two _ ⟨b0, b1⟩] at hst
      obtain ⟨C, hC⟩ : ∃ C, sumV c (l.take k) = C := ⟨_, rfl⟩
      rw [hC] at hst ⊢
      obtain ⟨A1, B1, k1, hk1, q1, q2, q3, q4⟩ := half_int C (b.toNat / 16) (by omega)
      obtain ⟨D, hD⟩ : ∃ D, hsF C (b.toNat / 16) = D := ⟨_, rfl⟩
      rw [hD] at hst q4
      obtain ⟨A2, B2, k2n, hk2, r1, r2, r3, r4⟩ := half_int D (b.toNat % 16) (by omega)
      rw [← hst] at r4
      have e1 : ((b.toNat / 16 : Nat) : Int) = b / 16 := by omega
      have e2 : ((b.toNat % 16 : Nat) : Int) = b % 16 := by omega
      rw [e1] at q3
      rw [e2] at r3
      have t1 := HCT.out k1 hk1
      have t2 := HCT.out k2n hk2
      have hCb := C.isLt
      have hDb := D.isLt
      obtain ⟨Cn, hCn⟩ : ∃ n : Int, (C.toNat : Int) = n := ⟨_, rfl⟩
      obtain ⟨Dn, hDn⟩ : ∃ n : Int, (D.toNat : Int) = n := ⟨_, rfl⟩
      obtain ⟨T1, hT1⟩ : ∃ n : Int, ((tab4 k1).toNat : Int) = n := ⟨_, rfl⟩
      obtain ⟨T2, hT2⟩ : ∃ n : Int, ((tab4 k2n).toNat : Int) = n := ⟨_, rfl⟩
      obtain ⟨E, hE⟩ : ∃ n : Int, ((sumV c (l.take (k + 1))).toNat : Int) = n := ⟨_, rfl⟩
      rw [hCn] at q1 q2 ⊢
      rw [hDn] at q4 r1 r2
      rw [hT1] at q4 t1
      rw [hT2] at r4 t2
      rw [hE] at r4
      have HE := Lib.hid hE
      have bk : (k : Int) < N := by omega
      have bk1 : (k1 : Int) < 16 := by omega
      have bk2 : (k2n : Int) < 16 := by omega
      have c0 : 0 ≤ Cn := by omega
      have c1 : Cn ≤ 65535 := by omega
      have d0 : 0 ≤ Dn := by omega
      have d1 : Dn ≤ 65535 := by omega
      replace h1 := keepc k2 hgg h1
      clear hx hb hst hC hD hCn hDn hT1 hT2 hE e1 e2 hCb hDb
      go_wp2_with fail
      refine wp_loop_rounds 3 ?_
      rw [rounds_succ]
      go_wp2_with fail
      rw [rounds_succ]
      go_wp2_with fail
      rw [rounds_succ]
      go_wp2_with fail
      go_round
      case rel => exact ⟨k + 1, by omega, by go_num, by rw [HE.out]⟩
      case measure => simp [intOf]; omega
    · obtain rfl : k = N := by omega
      have e : l.take k = l := by rw [← HN.out, List.take_length]
      rw [e, HR.out]
      clear e
      go_wp2_with fail
      go_ret
      exact ⟨rfl, by (repeat (first | with_reducible assumption | with_reducible exact Below.refl _ _ | with_reducible refine Below.drew ?_ | with_reducible refine below_drewN ?_ _ | with_reducible refine al ?_ _ | (with_reducible refine sc ?_ ?_; (focus (first | omega | (simp; done) | (simp; omega)))) | (with_reducible refine chain ?_ (by assumption))))⟩
theorem b7_with (c : W16) (v : Value) (l : List Int) (w : World) (hV : Vars w) (hl : BytsAt w v l) (ok : bytOk l) (hL : l.length ≤ 100000) : Calls Try.prog 67 #[.int .u16 (c.toNat : Int), v] w fun e w' => e = .returned (.int .u16 ((sumV c l).toNat : Int)) ∧ Below w.heap.size w w' := b7_withN c v l w hl ok hL
end Go.Proofs.Ythjekbbldejlpaa
/- Contracts of layer 7 (crc), of the landed code: slices.Grow from none, slices.Concat of two rows of bytes. -/
set_option linter.unusedVariables false
set_option linter.unusedSimpArgs false
namespace Go.Proofs.Ythjekbbldejlpaa
open Go.ChangeShapes Go.WideShapes Go.ChangeAt Go.RowKit
theorem grown_zero (w : World) (n : Nat) (h0 : 0 < n) (hn : n ≤ 1000000) : (w.drew.alloc (.cells (Builtin.zeroCells #[.int .u8 0] n ++ Builtin.zeroCells #[.int .u8 0] (grownCap w n 0 5 - n)) 5)).ownsRow w.heap.size 5 1 (.slice (some ⟨w.heap.size, 0, none⟩) 0 (grownCap w n 0 5)) 0 [] := by
  have h1 := grownCap_ge w n 0 5
  have h2 := grownCap_le_maxLen w n 0 5 (by unfold maxLen; omega)
  have h3 := World.ownsRow_made (base := w.heap.size) (e := 5) (size := 1) w.drew (Builtin.zeroCells #[.int .u8 0] n ++ Builtin.zeroCells #[.int .u8 0] (grownCap w n 0 5 - n)) (grownCap w n 0 5) (Nat.le_refl _) h2 (by rw [Array.size_append, size_zeroCells, size_zeroCells]; simp; omega)
  exact h3
set_option maxRecDepth 10000 in
set_option maxHeartbeats 2000000 in
theorem b7_grow (n : Nat) (hn : n ≤ 1000000) (w : World) : Calls Try.prog 68 #[.slice none 0 0, .int .i64 n] w fun e w' => ∃ v', e = .returned v' ∧ w'.ownsRow w.heap.size 5 1 v' 0 [] ∧ Below w.heap.size w w' := by
  obtain ⟨i0, hi, hz, hsz, hby⟩ := byte_info
  by_cases h0 : n = 0
  · subst h0
    go_enter Try.func68, Try.ntmps68
    go_wp2_with fail
    go_ret
    exact ⟨_, rfl, World.ownsRow_nil _ _ _ _, by (repeat (first | with_reducible assumption | with_reducible exact Below.refl _ _ | with_reducible refine Below.drew ?_ | with_reducible refine below_drewN ?_ _ | with_reducible refine al ?_ _ | (with_reducible refine sc ?_ ?_; (focus (first | omega | (simp; done) | (simp; omega)))) | (with_reducible refine chain ?_ (by assumption))))⟩
  · have hp : 0 < n := by omega
    have hpi : (0 : Int) < n := by omega
    have hneg : ¬ ((n : Int) < 0) := by omega
    have wz : IntKind.i64.wrap (n : Int) = n := IntWalk.i64_in _ (by omega)
    have hr := Lib.run_append_nil_zeros (P := Try.prog) w 22 3 22 5 i0 _ .i64 .i64 Try.underlying22 Try.underlying3 hi hz n hp (by omega) (by omega) (by rw [hby]; omega)
    have ho := grown_zero w n hp hn
    have hl : (0 : Nat) ≤ grownCap w n 0 5 := Nat.zero_le _
    have kb : Below w.heap.size w (w.drew.alloc (.cells (Builtin.zeroCells #[.int .u8 0] n ++ Builtin.zeroCells #[.int .u8 0] (grownCap w n 0 5 - n)) 5)) := al (Below.refl _ _).drew _
    obtain ⟨C, hC⟩ : ∃ c, grownCap w n 0 5 = c := ⟨_, rfl⟩
    rw [hC] at ho hr kb hl
    go_enter Try.func68, Try.ntmps68
    go_wp2_with (at_builtin; refine Lib.wpList_append_run _ rfl _ _ _ _ rfl _ _ rfl rfl _ _ hr ?_)
    go_ret
    exact ⟨_, rfl, ho, kb⟩
set_option maxRecDepth 10000 in
set_option maxHeartbeats 4000000 in
theorem b7_concat (g : Nat) (va vb : Value) (a b : List Int) (T : TypeId) (w : World) (hr : RowAt w g #[va, vb] T) (ha : BytsAt w va a) (hb : BytsAt w vb b) (hA : a.length ≤ 100000) (hB : b.length ≤ 100000) : Calls Try.prog 53 #[.slice (some ⟨g, 0, none⟩) 2 2] w fun e w' =>
    ∃ v', e = .returned v' ∧ w'.ownsRow w.heap.size 5 1 v' (a ++ b).length (bytVs (a ++ b)) ∧ Below w.heap.size w w' := by
  obtain ⟨i0, hi, hz, hsz, hby⟩ := byte_info
  obtain ⟨pa, ca, rfl⟩ := ha.shape
  obtain ⟨pb, cb, rfl⟩ := hb.shape
  obtain ⟨NA, hNA⟩ : ∃ N, a.length = N := ⟨_, rfl⟩
  obtain ⟨NB, hNB⟩ : ∃ N, b.length = N := ⟨_, rfl⟩
  have HNA := Lib.hid hNA
  have HNB := Lib.hid hNB
  rw [hNA] at hA hr ha
  rw [hNB] at hB hr hb
  clear hNA hNB
  have c0 := hr.two.1
  have c1 := hr.two.2
  have hg := hr.lt
  have w0 : IntKind.i64.wrap (NA : Int) = NA := IntWalk.i64_in _ (by omega)
  have w1 : IntKind.i64.wrap ((NA : Int) + (NB : Int)) = (NA : Int) + (NB : Int) := IntWalk.i64_in _ (by omega)
  have p0 : ¬ ((NA : Int) < 0) := by omega
  have p1 : ¬ ((NA : Int) + (NB : Int) < 0) := by omega
  go_enter Try.func53, Try.ntmps53
  go_wp2_with fail
  refine wp_loop_rounds 3 ?_
  rw [rounds_succ]
  go_wp2_with fail
  rw [rounds_succ]
  go_wp2_with fail
  rw [rounds_succ]
  go_wp2_with fail
  have gr := b7_grow (NA + NB) (by omega) w
  rw [show ((NA + NB : Nat) : Int) = (NA : Int) + (NB : Int) by omega] at gr
  refine gr.mono ?_
  rintro e u1 ⟨v1, rfl, ho1, hb1⟩
  have d0 := keepc hb1 hg c0
  have d1 := keepc hb1 hg c1
  have ha1 := ha.keep hb1
  have hb2 := hb.keep hb1
  go_wp2_with fail
  refine wp_loop_rounds 3 ?_
  rw [rounds_succ]
  go_wp2_with (at_builtin; refine app_any _ rfl _ _ 22 rfl w.heap.size 5 i0 _ Try.underlying22 hi hz hsz hby rfl _ _ _ rfl ho1 a _ _ _ rfl ha1 (by omega) hb1.size ?_; intro v2 u2 ho2 hg2)
  have kb2 : Below w.heap.size w u2 := Below.own hb1 ho1 hg2
  have e0 := keepc kb2 hg c0
  have e1 := keepc kb2 hg c1
  have hb3 := hb.keep kb2
  clear d0 d1 ha1 hb2 hg2
  rw [rounds_succ]
  go_wp2_with (at_builtin; refine app_any _ rfl _ _ 22 rfl w.heap.size 5 i0 _ Try.underlying22 hi hz hsz hby rfl _ _ _ rfl ho2 b _ _ _ rfl hb3 (by omega) kb2.size ?_; intro v3 u3 ho3 hg3)
  have kb3 : Below w.heap.size w u3 := Below.own kb2 ho2 hg3
  rw [rounds_succ]
  go_wp2_with fail
  go_ret
  refine ⟨_, rfl, ?_, kb3⟩
  have e1 : (a ++ b).length = 0 + NA + NB := by rw [List.length_append, HNA.out, HNB.out]; omega
  have e2 : bytVs (a ++ b) = ([] ++ bytVs a) ++ bytVs b := by simp
  rw [e1, e2]
  exact ho3
end Go.Proofs.Ythjekbbldejlpaa
