/- Texts behind each other. -/
import Derived.Test.YthjekbbldejlpaaZ25
import Derived.Test.YthjekbbldejlpaaZ15
import Derived.Test.YthjekbbldejlpaaShelf
import Derived.Lib.SlicesCompact
import Derived.Laws.IdiomCopy
import Derived.Test.YthjekbbldejlpaaZ13
import Derived.Lib.MinMax
import Derived.Test.YthjekbbldejlpaaZ12
import Derived.Test.YthjekbbldejlpaaZ08
/- The landed store: Ids. Over any disk that is what layer 8's laws ask. -/
set_option linter.unusedVariables false
set_option linter.unusedSimpArgs false
namespace Go.Proofs.Ythjekbbldejlpaa
open Go.ChangeShapes Go.WideShapes Go.ChangeAt Go.RowKit
/-- All slots' ids that have a record, twice where both slots are there. -/
def rawStep (d : St) (out : List Int) (q : Int) : List Int := if 0 < (of9 d (q / 2)).2.1 then out ++ [q / 2] else out
def rawL (d : St) (l : List Int) : List Int := l.foldl (rawStep d) []
theorem rawL_snoc (d : St) (l : List Int) (q : Int) : rawL d (l ++ [q]) = rawStep d (rawL d l) q := by simp [rawL]
theorem rawL_len (d : St) (l : List Int) : ∀ k, k ≤ l.length → (rawL d (l.take k)).length ≤ k
  | 0, _ => by simp [rawL]
  | k + 1, h => by
    have ih := rawL_len d l k (by omega)
    rw [take_succ_get l k (by omega), rawL_snoc]
    unfold rawStep
    split
    · simp; omega
    · omega
theorem getElem!_append_lt (J : List Int) (x : Int) {j : Nat} (hj : j < J.length) : (J ++ [x]).toArray[j]! = J.toArray[j]! := by
  rw [getElem!_pos _ j (by simp; omega), getElem!_pos _ j (by simpa using hj)]
  simp [List.getElem_append_left hj]
theorem compact_snoc (J : List Int) (x : Int) : Lib.compact (J ++ [x]) = Lib.compact J ++ (if J.getLast? = some x then [] else [x]) := by
  have h1 : Lib.compact (J ++ [x]) = Lib.compactUpTo (J ++ [x]).toArray (J.length + 1) := by unfold Lib.compact; rw [List.length_append, List.length_singleton]
  have h2 : Lib.compactUpTo (J ++ [x]).toArray J.length = Lib.compact J := by
    unfold Lib.compact Lib.compactUpTo
    have hk : ∀ j, j < J.length → Lib.keeps (J ++ [x]).toArray j = Lib.keeps J.toArray j := fun j hj => by
      unfold Lib.keeps
      rw [getElem!_append_lt J x hj, getElem!_append_lt J x (by omega)]
    rw [List.filter_congr (fun j hj => hk j (List.mem_range.1 hj))]
    exact List.map_congr_left fun j hj => getElem!_append_lt J x (List.mem_range.1 (List.mem_filter.1 hj).1)
  rw [h1, Lib.compactUpTo_succ, h2]
  congr 1
  have hx : (J ++ [x]).toArray[J.length]! = x := by
    rw [getElem!_pos _ J.length (by simp)]
    simp
  rw [hx]
  unfold Lib.keeps
  rw [hx]
  by_cases h0 : J.length = 0
  · obtain rfl := List.length_eq_zero_iff.1 h0
    simp
  · have hl : (J ++ [x]).toArray[J.length - 1]! = J[J.length - 1]'(by omega) := by
      rw [getElem!_append_lt J x (by omega), getElem!_pos _ (J.length - 1) (by simp; omega)]
      simp
    rw [hl, List.getLast?_eq_getElem?, List.getElem?_eq_getElem (by omega : J.length - 1 < J.length)]
    by_cases he : x = J[J.length - 1]'(by omega)
    · rw [if_neg (by simp [h0, he]), if_pos (by rw [he])]
    · rw [if_pos (by simp [h0, he]), if_neg (fun h => he (Option.some.inj h).symm)]
/-- Of the ids of all slots, one behind the other, what is left if the same ones side by side are one. -/
theorem raw_ids (d : St) : ∀ (n : Nat) (l : List Int), l.length = n → Lib.compact (rawL d l) = idsL d l ∧ (idsL d l).getLast? = (rawL d l).getLast?
  | 0, l, h => by
    obtain rfl := List.length_eq_zero_iff.1 h
    exact ⟨rfl, rfl⟩
  | n + 1, l, h => by
    obtain ⟨l', q, rfl⟩ : ∃ l' q, l = l' ++ [q] := ⟨l.dropLast, l.getLast (by intro e; rw [e] at h; simp at h), (List.dropLast_concat_getLast _).symm⟩
    obtain ⟨ih1, ih2⟩ := raw_ids d n l' (by simpa using h)
    rw [rawL_snoc, idsL_snoc]
    unfold rawStep idStep
    by_cases hp : 0 < (of9 d (q / 2)).2.1
    · rw [if_pos hp, compact_snoc, ih1]
      by_cases hl : (rawL d l').getLast? = some (q / 2)
      · rw [if_pos hl, if_neg (fun hc => by
          rcases hc.2 with hc | hc
          · rw [hc] at ih2; rw [← ih2] at hl; simp at hl
          · exact hc (ih2.trans hl))]
        refine ⟨by simp, ?_⟩
        rw [ih2, hl]
        simp
      · rw [if_neg hl, if_pos ⟨hp, .inr (by rw [ih2]; exact hl)⟩]
        exact ⟨rfl, by simp⟩
    · rw [if_neg hp, if_neg (fun hc => hp hc.1)]
      exact ⟨ih1, ih2⟩
theorem below_cells9 {B : Nat} {a : World} {b : Nat} (hb : B ≤ b) : ∀ (vs : List Value) (o : Nat) {w : World}, Below B a w → Below B a (w.setCells b o vs)
  | [], _, _, h => h
  | v :: vs, o, _, h => below_cells9 hb vs (o + 1) (h.setCell (p := ⟨b, o, none⟩) hb v)
theorem own_frozen9 {w : World} {base : Nat} {e : TypeId} {size n g cap : Nat} {xs : List Value} (h : w.ownsRow base e size (.slice (some ⟨g, 0, none⟩) n cap) n xs) : ∀ o, w.frozen? ⟨g, o, none⟩ = false := (own_open h).1
theorem b9_compact (w0 : World) (w : World) (v : Value) (zs : List Int) (kb : Below w0.heap.size w0 w) (ho : w.ownsRow w0.heap.size 3 1 v zs.length (intVs zs)) (hl : zs.length ≤ 100000) :
    Calls Try.prog 65 #[v] w fun e w' => ∃ vb, e = .returned vb ∧ IntsAt w' vb (Lib.compact zs) ∧ Below w0.heap.size w0 w' := by
  rcases Nat.eq_zero_or_pos zs.length with h0 | h0
  · obtain rfl := List.length_eq_zero_iff.1 h0
    obtain ⟨p, cap, rfl⟩ := own_form ho
    refine (Try.slices_Compact_int_empty p cap w).mono ?_
    rintro e w' ⟨rfl, rfl⟩
    exact ⟨_, rfl, .inl ⟨⟨_, _, rfl⟩, rfl⟩, kb⟩
  · obtain ⟨g, cap, rfl⟩ := own_some ho h0
    have hg := ho.lt g rfl
    have hcap : zs.length ≤ cap := by
      rcases ho.2 with ⟨h, _⟩ | ⟨g', cap', cur, e, _, _, h, _⟩
      · cases h
      · simp only [Value.slice.injEq] at e
        obtain ⟨_, _, rfl⟩ := e
        exact h
    have hcell : ∀ j, j < zs.length → w.cell? ⟨g, 0 + j, none⟩ = some (.int .i64 (zs.getD j 0)) := fun j hj => by
      rw [Nat.zero_add]
      exact own_cell ho j (by simp [intVs, hj])
    refine (Try.slices_Compact_int_cells g 0 zs.length cap zs w (Nat.le_refl _) (by omega) hcap hcell (fun j _ => own_frozen9 ho _)).mono ?_
    rintro e w' ⟨rfl, q, rfl⟩
    rw [List.take_length]
    have hcl : (Lib.compact zs).length ≤ zs.length := by
      unfold Lib.compact Lib.compactUpTo
      rw [List.length_map]
      exact Nat.le_trans (List.length_filter_le ..) (by simp)
    have kd : Below w0.heap.size w0 (w.drewN q) := below_drewN kb q
    have kc := below_cells9 hg.1 ((Lib.compact zs ++ List.replicate (zs.length - (Lib.compact zs).length) 0).map (Value.int .i64)) 0 kd
    refine ⟨_, rfl, ?_, kc⟩
    rcases Nat.eq_zero_or_pos (Lib.compact zs).length with c0 | c0
    · rw [List.length_eq_zero_iff.1 c0]
      exact .inl ⟨⟨_, _, rfl⟩, rfl⟩
    · refine .inr ⟨g, 0, cap, rfl, by omega, ?_, fun j hj => ?_⟩
      · have hsz : ∀ (vs : List Value) (o : Nat) (u : World), (u.setCells g o vs).heap.size = u.heap.size := fun vs => by
          induction vs with
          | nil => intro o u; rfl
          | cons v vs ih => intro o u; rw [World.setCells, ih]; simp [World.setCell]
        rw [hsz]
        exact hg.2
      · have hin := World.cell?_setCells_in g ((Lib.compact zs ++ List.replicate (zs.length - (Lib.compact zs).length) 0).map (Value.int .i64)) 0 (w.drewN q) (fun i hi => by
          have hi2 : i < zs.length := by simp at hi; omega
          have := hcell i hi2
          exact Option.isSome_iff_exists.2 ⟨_, this⟩) j (by simp; omega)
        rw [hin, List.getElem_map, List.getElem_append_left hj]
set_option maxRecDepth 10000 in
set_option maxHeartbeats 16000000 in
theorem b9_ids (D : DiskI) (w : World) (F : Foot) (p : Value) (d : St) (i : Nat) (hA : StoreAt D w F p d) (h9 : St9 d i) (hi : i ≤ 300) :
    Calls Try.prog 44 #[p] w fun e w' => ∃ vb, e = .returned vb ∧ IntsAt w' vb (idsF d) ∧ Below w.heap.size w w' := by
  obtain ⟨i0, hin0, hz, hsz, hby⟩ := int9_info
  have hA0 := hA
  obtain ⟨b, q, G, rfl, r, hD, nb, rfl⟩ := hA
  obtain ⟨aq, rfl⟩ := D.ptr hD
  have keys := D.keys w G _ d i (29 * i) hD h9.ok (by omega) (by omega)
  have load := fun u (hu : Below w.heap.size w u) (k : Int) (hk : 0 ≤ k ∧ k ≤ 1099511627776) => b9_load D u _ _ d k i (hA0.keep hu) h9 hi ⟨by omega, by omega⟩
  have hq : ∀ x ∈ d.all, 0 ≤ x.1 ∧ x.1 ≤ 2199023255553 := fun x hx => ⟨(h9.all x hx).1, (h9.all x hx).2.1⟩
  have hlen := rawL_len d (d.all.map (·.1))
  have hfin := (raw_ids d _ (d.all.map (·.1)) rfl).1
  have hall := all_len d
  have hl := h9.ok.len
  unfold idsF
  rw [← hfin]
  obtain ⟨N, hN⟩ : ∃ N, (d.all.map (·.1)).length = N := ⟨_, rfl⟩
  have hNb : N ≤ 300 := by rw [← hN, List.length_map]; omega
  have hq' : ∀ x ∈ d.all.map (·.1), 0 ≤ x ∧ x ≤ 2199023255553 := fun x hx => by
    obtain ⟨y, hy, rfl⟩ := List.mem_map.1 hx
    exact hq y hy
  generalize d.all.map (·.1) = K at *
  have KEYS := Lib.hid keys
  have LOAD := Lib.hid load
  have HQ := Lib.hid hq'
  have HLEN := Lib.hid hlen
  have HN := Lib.hid hN
  clear keys load hq hq' hlen hfin hall hl hN h9 hA0 hD nb
  have cS := r.one
  have zS := r.lt
  have fS := r.frozen
  go_enter Try.func44, Try.ntmps44
  go_wp2_with fail
  refine KEYS.out.mono ?_
  rintro e w1 ⟨v1, rfl, hk1, hb1⟩
  obtain ⟨pk, ck, rfl, hf⟩ := hk1.form
  rw [HN.out]
  have HF := Lib.hid hf
  have K1 := Lib.hid hb1
  clear hk1 hf hb1 cS zS fS r
  go_wp2_with fail
  go_loopw [3, 16] (fun o i wr => ∃ j : Nat, j ≤ N ∧ i = .int .i64 j ∧ wr.ownsRow w1.heap.size 3 1 o (rawL d (K.take j)).length (intVs (rawL d (K.take j))) ∧ Below w1.heap.size w1 wr) (fun _ i _ => N - (intOf i).toNat)
  case atStart => exact ⟨0, by omega, rfl, by simpa [rawL, intVs] using World.ownsRow_nil _ _ _ _, Below.refl _ _⟩
  case round =>
    obtain ⟨j, hj, rfl, ho, kw⟩ := hrel
    by_cases hlt : j < N
    · have hjk : j < K.length := by rw [HN.out]; exact hlt
      obtain ⟨g, off, rfl, hcap, zg0, hx⟩ := HF.out (by omega)
      have h0 := hx j hjk
      have hS := rawL_snoc d (K.take j) K[j]
      rw [← take_succ_get _ j hjk] at hS
      have hln := HLEN.out j (by omega)
      have hb := HQ.out K[j] (List.getElem_mem hjk)
      generalize K[j] = q at *
      generalize rawL d (K.take j) = A at *
      unfold rawStep at hS
      obtain ⟨id, hid⟩ : ∃ y, q / 2 = y := ⟨_, rfl⟩
      rw [hid] at hS
      have hib : 0 ≤ id ∧ id ≤ 1099511627776 := by constructor <;> omega
      have d0 := keepc kw zg0 h0
      have zg := size_lt zg0 kw
      have hld := LOAD.out wr (chain K1.out kw) id hib
      unfold loadF at hld
      rw [(idB_iff id).2 hib, if_pos rfl] at hld
      generalize of9 d id = o9 at *
      obtain ⟨os, ov, ob⟩ := o9
      dsimp only at hld hS
      have HLD := Lib.hid hld
      obtain ⟨a, ha⟩ : ∃ a, A.length = a := ⟨_, rfl⟩
      rw [ha] at hln ho
      have HA := Lib.hid ha
      have HO := Lib.hid ho
      have HS0 := Lib.hid hS
      have KW := Lib.hid kw
      have bj : (j : Int) < N := by omega
      rw [HN.out] at hcap
      clear hx h0 hb hib hld ha ho hS kw
      go_wp2_with fail
      refine HLD.out.mono ?_
      rintro e w2 ⟨vl, rfl, hn2, hb2⟩
      obtain ⟨pl, cl, hsl⟩ := hn2.1.shape
      subst hsl
      have k2 := chain KW.out hb2
      have ho2 := own_keep HO.out hb2
      clear hn2 hb2 d0 zg
      by_cases q1 : 0 < ov
      · have g1 : decide (0 < ov) = true := by simpa using q1
        rw [g1]
        have HS := Lib.hid (HS0.out.trans (if_pos q1))
        clear q1 g1
        go_wp2_with (at_builtin; refine app_int _ rfl _ _ 79 rfl w1.heap.size 3 i0 _ Try.underlying79 hin0 hz hsz hby rfl _ _ _ rfl (ho2.alloc _) w2.heap.size (.int .i64 id) rfl (by go_simp) rfl (by omega) (by have := k2.size; simp; omega) ?_; intro v3 w3 ho3 hg3)
        have k3 : Below w1.heap.size w1 w3 := Below.own (al k2 _) (ho2.alloc _) hg3
        have FO := Lib.hid ho3
        have FK := Lib.hid k3
        clear ho3 hg3
        go_wp2_with fail
        go_roundw
        case rel =>
          refine ⟨j + 1, by omega, by go_num, ?_, FK.out⟩
          rw [HS.out, List.length_append, List.length_singleton]
          have := FO.out
          simpa [intVs, HA.out] using this
        case measure => simp [intOf]; omega
      · have g1 : decide (0 < ov) = false := by simpa using q1
        rw [g1]
        have HS := Lib.hid (HS0.out.trans (if_neg q1))
        have ho3 := ho2
        rw [← HA.out] at ho3
        have FO := Lib.hid ho3
        clear ho3
        have FK := Lib.hid k2
        clear q1 g1 ho2 k2
        go_wp2_with fail
        go_roundw
        case rel =>
          refine ⟨j + 1, by omega, by go_num, ?_, FK.out⟩
          rw [HS.out]
          exact FO.out
        case measure => simp [intOf]; omega
    · obtain rfl : j = N := by omega
      have e : K.take j = K := by rw [← HN.out, List.take_length]
      rw [e] at ho
      have hl := HLEN.out j (by rw [HN.out]; exact Nat.le_refl _)
      rw [e] at hl
      obtain ⟨A, hA9⟩ : ∃ A, rawL d K = A := ⟨_, rfl⟩
      rw [hA9] at ho hl
      have HA9 := Lib.hid hA9
      clear hA9
      have hc := b9_compact w _ _ A (chain K1.out kw) (own_base ho K1.out.size) (by omega)
      have HC := Lib.hid hc
      clear ho kw e hl hc
      go_wp2_with fail
      refine HC.out.mono ?_
      rintro e w4 ⟨v4, rfl, h4, k4⟩
      have H4 := Lib.hid h4
      have K4 := Lib.hid k4
      clear h4 k4
      go_wp2
      go_ret
      exact ⟨_, rfl, by rw [HA9.out]; exact H4.out, K4.out⟩
end Go.Proofs.Ythjekbbldejlpaa
/- The landed disk: Fail, Room, Len, New, Left, the copies of blobs. -/
set_option linter.unusedVariables false
set_option linter.unusedSimpArgs false
namespace Go.Proofs.Ythjekbbldejlpaa
open Go.ChangeShapes Go.WideShapes Go.ChangeAt Go.RowKit
theorem own_raws {w : World} {base : Nat} {t : TypeId} {v : Value} {l : List Raw} (h : w.ownsRow base t 2 v l.length (rawVs l)) : ∃ p cap, v = .slice p l.length cap ∧ (0 < l.length → ∃ g, p = some ⟨g, 0, none⟩ ∧ l.length ≤ cap ∧ g < w.heap.size ∧
    ∀ j (h : j < l.length), w.cell? ⟨g, j * 2, none⟩ = some (.int .i64 l[j].1) ∧ w.cell? ⟨g, j * 2 + 1, none⟩ = some l[j].2) := by
  rcases h.2 with ⟨rfl, hn⟩ | ⟨g, cap, cur, rfl, hb, hg, hc, hm, hs, ht⟩
  · exact ⟨none, 0, by rw [hn], fun h => absurd h (by omega)⟩
  · refine ⟨some ⟨g, 0, none⟩, cap, rfl, fun _ => ⟨g, rfl, hc, (Array.getElem?_eq_some_iff.1 hg).1, fun j hj => ?_⟩⟩
    obtain ⟨h1, h2⟩ := rawVs_at l j hj
    rw [cell_of_row w g _ cur _ (0, 0) hg, cell_of_row w g _ cur _ (0, 0) hg]
    rw [← ht, List.getElem?_take] at h1 h2
    constructor
    · split at h1
      · simpa using h1
      · cases h1
    · split at h2
      · simpa using h2
      · cases h2
theorem b8_fail (w : World) (b : Nat) (c0 c1 c2 c3 c4 c5 c6 : Value) (k : Int) (hk : i64 k) (r : RowAt w b #[c0, c1, c2, c3, c4, c5, c6] 89) :
    Calls Try.prog 33 #[.pointer (some ⟨b, 0, none⟩), .int .i64 k] w fun e w' => (∃ v, e = .returned v) ∧
      RowAt w' b #[c0, c1, c2, c3, c4, .bool (decide (0 < (failF k).2)), .int .i64 (failF k).1] 89 ∧ Wr (fun x => x = b) w w' := by
  obtain ⟨k0, k1⟩ := hk
  have R := Lib.hid r
  have zb := r.lt
  have z5 := r.frozen 5
  have z6 := r.frozen 6
  have e5 : w.cell? ⟨b, 5, none⟩ = some c5 := by rw [r.cell]; rfl
  have e6 : w.cell? ⟨b, 6, none⟩ = some c6 := by rw [r.cell]; rfl
  clear r
  by_cases h1 : k < 0
  · have g1 : decide (k < 0) = true := by simpa using h1
    obtain ⟨M, hM⟩ : ∃ M, max k (-1048576) = M := ⟨_, rfl⟩
    have g2 : IntKind.i64.wrap (-M) = -M := IntWalk.i64_in _ (by omega)
    have e : failF k = (-M, 1) := by
      unfold failF
      rw [if_pos h1]
      simp only [Prod.mk.injEq, and_true]
      omega
    rw [e]
    clear e h1 k0 k1
    go_enter Try.func33, Try.ntmps33
    go_wp2
    refine bodyPost_end (v := .tuple #[]) (by simp [results, Try.results33, go_sem]) rfl ⟨⟨_, rfl⟩, ?_, ((wr_set _ _ _ _).put (.inl rfl) _ _).put (.inl rfl) _ _⟩
    exact (((R.out.set 5 (.bool true)).set 6 (.int .i64 k)).set 6 (.int .i64 (-M)) :)
  · have g1 : decide (k < 0) = false := by simpa using h1
    have e : failF k = (k, 0) := by unfold failF; rw [if_neg h1]
    rw [e]
    clear e h1 k0 k1
    go_enter Try.func33, Try.ntmps33
    go_wp2
    refine bodyPost_end (v := .tuple #[]) (by simp [results, Try.results33, go_sem]) rfl ⟨⟨_, rfl⟩, ?_, (wr_set _ _ _ _).put (.inl rfl) _ _⟩
    exact ((R.out.set 5 (.bool false)).set 6 (.int .i64 k) :)
set_option maxRecDepth 10000 in
set_option maxHeartbeats 4000000 in
theorem b8_left (w : World) (b : Nat) (c0 c1 c2 c3 vw c5 c6 : Value) (l : List Raw) (r : RowAt w b #[c0, c1, c2, c3, vw, c5, c6] 89) (hl : w.ownsRow 0 91 2 vw l.length (rawVs l)) (ok : rawOk l) (hL : l.length ≤ 100000) (hS : lenR l ≤ 1000000000000) :
    Calls Try.prog 22 #[.pointer (some ⟨b, 0, none⟩)] w fun e w' => e = .returned (.int .i64 (lenR l)) ∧ Below w.heap.size w w' := by
  obtain ⟨p, cap, rfl, hf⟩ := own_raws hl
  have lt := fun k => lenR_take l k
  have zb := r.lt
  have e4 : w.cell? ⟨b, 4, none⟩ = some (.slice p l.length cap) := by rw [r.cell]; rfl
  obtain ⟨N, hN⟩ : ∃ N, l.length = N := ⟨_, rfl⟩
  obtain ⟨T, hT⟩ : ∃ N, lenR l = N := ⟨_, rfl⟩
  rw [hT] at hS lt
  rw [hT]
  have HN := Lib.hid hN
  have HT := Lib.hid hT
  have OK := Lib.hid ok
  have HF := Lib.hid hf
  have LT := Lib.hid lt
  rw [hN] at hL e4
  clear hN ok hf hl lt hT r
  go_enter Try.func22, Try.ntmps22
  go_wp2_with fail
  go_loopw [3, 5, 11] (fun s _ i wr => ∃ j : Nat, j ≤ N ∧ i = .int .i64 j ∧ s = .int .i64 (lenR (l.take j)) ∧ Below w.heap.size w wr) (fun _ _ i _ => N - (intOf i).toNat)
  case atStart => exact ⟨0, by omega, rfl, by simp [lenR], Below.refl _ _⟩
  case round =>
    obtain ⟨j, hj, rfl, rfl, kw⟩ := hrel
    by_cases hlt : j < N
    · have hlt2 : j < l.length := by rw [HN.out]; exact hlt
      have e : lenR (l.take (j + 1)) = lenR (l.take j) + slLen l[j].2 := by rw [take_succ_get l j hlt2, lenR_append]; simp [lenR]
      obtain ⟨g, rfl, hc, zg0, hx⟩ := HF.out (by omega)
      obtain ⟨h0, h1⟩ := hx j hlt2
      obtain ⟨okk, xp, xn, xc, hxs⟩ := OK.out _ (List.getElem_mem hlt2)
      have b1 := LT.out (j + 1)
      have b0 := LT.out j
      rw [hxs] at h1 e
      have e2 : lenR (l.take (j + 1)) = lenR (l.take j) + xn := e
      rw [e2] at b1
      obtain ⟨S, hSj⟩ : ∃ S, lenR (l.take j) = S := ⟨_, rfl⟩
      rw [hSj] at e2 b1 b0 ⊢
      obtain ⟨xk, hxk⟩ : ∃ x, l[j].1 = x := ⟨_, rfl⟩
      rw [hxk] at h0
      have E2 := Lib.hid e2
      have wS : IntKind.i64.wrap ((S : Int) + (xn : Int)) = (S : Int) + xn := IntWalk.i64_in _ (by omega)
      have d0 := keepc kw zg0 h0
      have d1 := keepc kw zg0 h1
      have zg := size_lt zg0 kw
      clear hx hxs e e2 hSj hxk okk hc hlt2 h0 h1
      go_wp2_with fail
      go_roundw
      case rel => exact ⟨j + 1, by omega, by go_num, by rw [E2.out]; go_num, al kw _⟩
      case measure => simp [intOf]; omega
    · obtain rfl : j = N := by omega
      have e : l.take j = l := by rw [← HN.out, List.take_length]
      rw [e, HT.out]
      clear e
      go_wp2_with fail
      go_ret
      exact ⟨rfl, kw⟩
theorem b8_clone (v : Value) (B : List Int) (w : World) (h : BytsAt w v B) (hB : B.length ≤ 1000000000) : Calls Try.prog 55 #[v] w fun e w' => ∃ v', e = .returned v' ∧ w'.ownsRow w.heap.size 5 1 v' B.length (bytVs B) ∧ Below w.heap.size w w' := by
  obtain ⟨p, c, rfl, hf⟩ := h.form
  rcases p with _ | a
  · obtain rfl : B = [] := by
      rcases Nat.eq_zero_or_pos B.length with h0 | h0
      · exact List.length_eq_zero_iff.1 h0
      · obtain ⟨g, off, e, _⟩ := hf h0; cases e
    refine (Try.bytes_Clone_nil _ _ w).mono ?_
    rintro e w' ⟨rfl, rfl⟩
    exact ⟨_, rfl, World.ownsRow_nil _ _ _ _, Below.refl _ _⟩
  · refine (Try.bytes_Clone_at a B.length c B w rfl (by omega) (fun i hi => ?_)).mono ?_
    · obtain ⟨g, off, e, _, _, hx⟩ := hf (by omega)
      cases e
      rw [Addr.add_lit]
      rw [hx i hi]
      simp [List.getD_eq_getElem?_getD, hi]
    · rintro e w' ⟨v', rfl, ho, _, hb⟩
      exact ⟨v', rfl, ho, hb⟩
end Go.Proofs.Ythjekbbldejlpaa
/- The landed disk: write. -/
set_option linter.unusedVariables false
set_option linter.unusedSimpArgs false
namespace Go.Proofs.Ythjekbbldejlpaa
open Go.ChangeShapes Go.WideShapes Go.ChangeAt Go.RowKit
/-- What write leaves. -/
def WroteTo (w w' : World) (F : Foot) (b bl bs : Nat) (S U : Blobs) (cs : Array Value) (K : Nat) : Prop :=
  ∃ R G, RowAt w' b cs 89 ∧ MapAt w' bs R ∧ RelG (BlobIn G w') R (crashGo List.length cutB S K U) ∧ Wr (fun x => x = b ∨ x = bs) w w' ∧ (∀ x, F x → G x) ∧
    (∀ x, G x → F x ∨ (w.heap.size ≤ x ∧ x < w'.heap.size ∧ ∃ cur f, w'.heap[x]? = some (Obj.cells cur 5 f)))
theorem own_mono {w : World} {base base' : Nat} {e : TypeId} {size n : Nat} {v : Value} {xs : List Value} (h : w.ownsRow base e size v n xs) (hb : base' ≤ base) : w.ownsRow base' e size v n xs := by
  refine ⟨h.1, ?_⟩
  rcases h.2 with h1 | ⟨g, cap, cur, hv, hb2, rest⟩
  · exact .inl h1
  · exact .inr ⟨g, cap, cur, hv, Nat.le_trans hb hb2, rest⟩
theorem wrote_full {w wr : World} {F : Foot} {b bl bs : Nat} {vw : Value} {RL RS RW R : List Raw} {d : St} (h : LD w F b bl bs vw RL RS RW d) (hw : Wr (fun x => x = bs) w wr) (hM : MapAt wr bs R) {K : Nat} (hR : RelG (BlobIn F w) R (crashGo List.length cutB d.safe K d.under)) :
    WroteTo w (wr.setCell ⟨b, 4, none⟩ (.slice none 0 0)) F b bl bs d.safe d.under #[.int .i64 d.room, .map (some bl), .int .i64 (sumB d.all), .map (some bs), .slice none 0 0, .bool (decide (0 < d.wait)), .int .i64 d.fails] K := by
  obtain ⟨n1, n2, n3, n4, n5⟩ := h.nb
  have hw2 : Wr (fun x => x = b ∨ x = bs) w (wr.setCell ⟨b, 4, none⟩ (.slice none 0 0)) := (hw.mono fun x hx => .inr hx).put (.inl (.inl rfl)) 4 _
  refine ⟨R, F, (hw.row h.row (fun e => n2 e.symm)).set 4 _, hM.same (Below.heap_setCell wr ⟨b, 4, none⟩ _ bs n2), hR.map fun hb => hb.wr hw2 (fun x c f hx => h.off x c f (by rcases hx with hx | hx; exact .inl hx; exact .inr (.inr (.inl hx)))) (fun _ h => h), hw2, fun _ h => h, fun x hx => .inl hx⟩
theorem wrote_cut {w wr : World} {F : Foot} {b bl bs : Nat} {vw v : Value} {RL RS RW R : List Raw} {d : St} (h : LD w F b bl bs vw RL RS RW d) (ok : Srt d.safe) (hw : Wr (fun x => x = bs) w wr) {K j : Nat} (hj : j < d.under.length)
    {k : Int} (hk : k = d.under[j].1) (hM : MapAt wr bs (insF R (k, v))) (hR : RelG (BlobIn F w) R (nowF d.safe (d.under.take j))) (h1 : sumB (d.under.take j) ≤ K) (h2 : K - sumB (d.under.take j) < d.under[j].2.length)
    (hv : wr.ownsRow w.heap.size 5 1 v (d.under[j].2.take (K - sumB (d.under.take j))).length (bytVs (d.under[j].2.take (K - sumB (d.under.take j))))) :
    WroteTo w (wr.setCell ⟨b, 4, none⟩ (.slice none 0 0)) F b bl bs d.safe d.under #[.int .i64 d.room, .map (some bl), .int .i64 (sumB d.all), .map (some bs), .slice none 0 0, .bool (decide (0 < d.wait)), .int .i64 d.fails] K := by
  obtain ⟨n1, n2, n3, n4, n5⟩ := h.nb
  have hw2 : Wr (fun x => x = b ∨ x = bs) w (wr.setCell ⟨b, 4, none⟩ (.slice none 0 0)) := (hw.mono fun x hx => .inr hx).put (.inl (.inl rfl)) 4 _
  have hb := h.row.lt
  have hlt := hv.lt
  have hv2 : (wr.setCell ⟨b, 4, none⟩ (.slice none 0 0)).ownsRow w.heap.size 5 1 v (d.under[j].2.take (K - sumB (d.under.take j))).length (bytVs (d.under[j].2.take (K - sumB (d.under.take j)))) := by
    refine ⟨hv.1, ?_⟩
    rcases hv.2 with h1 | ⟨g, cap, cur, rfl, hb2, hg, rest⟩
    · exact .inl h1
    · exact .inr ⟨g, cap, cur, rfl, hb2, (Below.heap_setCell wr ⟨b, 4, none⟩ _ g (by show g ≠ b; omega)).trans hg, rest⟩
  have hs : Srt R := rel_srt hR ok.now
  subst hk
  refine ⟨insF R (d.under[j].1, v), fun x => F x ∨ v.ownBlock = some x, (hw.row h.row (fun e => n2 e.symm)).set 4 _, hM.same (Below.heap_setCell wr ⟨b, 4, none⟩ _ bs n2), ?_, hw2, fun _ h => .inl h, fun x hx => hx.elim .inl fun e => ?_⟩
  · rw [crash_cut _ _ _ _ hj h1 h2, ← layF_ins _ hs]
    refine RelG.lay (hR.map fun hb => hb.wr hw2 (fun x c f hx => h.off x c f (by rcases hx with hx | hx; exact .inl hx; exact .inr (.inr (.inl hx)))) (fun _ h => .inl h)) (BlobIn.owned hv2 fun g hg => .inr hg)
  · obtain ⟨l1, l2⟩ := hv2.lt x e
    refine .inr ⟨l1, l2, ?_⟩
    rcases hv2.2 with ⟨rfl, _⟩ | ⟨g, cap, cur, rfl, _, hg, _⟩
    · cases e
    · cases e
      exact ⟨cur, _, hg⟩
theorem bytes_to {g off xn xc M : Nat} (h0 : 0 < xc) (h : M ≤ xc) (u : World) :
    (Instr.sliceAt 22 (.slice (some ⟨g, off, none⟩) xn xc) none (some (.int .i64 (M : Int))) none).run Try.prog u = .ok (.slice (some ⟨g, off, none⟩) M xc) u := by
  have hs : Try.prog.cellsOf 5 = 1 := by kernel_rfl
  have h2 : ¬ 0 = xc := by omega
  have h3 : ¬ xc = 0 := by omega
  simp [go_sem, *]
set_option maxRecDepth 10000 in
set_option maxHeartbeats 8000000 in
theorem b8_write (w : World) (F : Foot) (b bl bs : Nat) (vw : Value) (RL RS RW : List Raw) (d : St) (n m : Nat) (h : LD w F b bl bs vw RL RS RW d) (ok : StOk d n m) (hn : n ≤ 30000) (hm : m ≤ 50000000) (k : Nat) (hk : k ≤ 9223372036854775807) :
    Calls Try.prog 61 #[.pointer (some ⟨b, 0, none⟩), .int .i64 k] w fun e w' => (∃ v, e = .returned v) ∧
      WroteTo w w' F b bl bs d.safe d.under #[.int .i64 d.room, .map (some bl), .int .i64 (sumB d.all), .map (some bs), .slice none 0 0, .bool (decide (0 < d.wait)), .int .i64 d.fails] k := by
  obtain ⟨n1, n2, n3, n4, n5⟩ := h.nb
  have len := h.ru.len
  have okr := h.ru.ok ok.ru
  have at' := rel_nth h.ru
  have hfull := fun (wr : World) (R : List Raw) (hw : Wr (fun x => x = bs) w wr) (hM : MapAt wr bs R) => wrote_full h hw hM (K := k)
  have hcut := fun (wr : World) (R : List Raw) (v : Value) (q : Int) (hw : Wr (fun x => x = bs) w wr) (j : Nat) (hj : j < d.under.length) => wrote_cut (v := v) (R := R) (K := k) (k := q) h ok.srt hw hj
  have hlen := ok.len
  have hsum := ok.sum
  have hsrt := ok.srt
  have hkeys := ok.keyU
  have hall : ∀ j, (nowF d.safe (d.under.take j)).length ≤ 30000 := fun j => by
    have e1 := nowF_len d.safe (d.under.take j) (d.under.take j).length (Nat.le_refl _)
    rw [List.take_length, List.length_take] at e1
    omega
  have off := h.off
  obtain ⟨p, cap, rfl, hf⟩ := own_raws h.way
  have r := h.row
  have zb := r.lt
  have e3 : w.cell? ⟨b, 3, none⟩ = some (.map (some bs)) := by rw [r.cell]; rfl
  have e4 : w.cell? ⟨b, 4, none⟩ = some (.slice p RW.length cap) := by rw [r.cell]; rfl
  have z4 := r.frozen 4
  have ms := h.ms
  have rs := h.rs
  obtain ⟨N, hN⟩ : ∃ N, RW.length = N := ⟨_, rfl⟩
  rw [hN] at e4
  have hU : d.under.length = N := by rw [← len, hN]
  have HN := Lib.hid hN
  have HU := Lib.hid hU
  have HF := Lib.hid hf
  have OK := Lib.hid okr
  have AT := Lib.hid at'
  have FULL := Lib.hid hfull
  have CUT := Lib.hid hcut
  have ALL := Lib.hid hall
  have KEYS := Lib.hid hkeys
  have R0 := Lib.hid r
  have HH := Lib.hid h
  have N2 := Lib.hid n2
  have N5 := Lib.hid n5
  have SRT := Lib.hid hsrt
  have RS0 := Lib.hid rs
  have MS := Lib.hid ms
  clear n1 n3 n4 n5 len okr at' hfull hcut hf hN hU hall hkeys off r hsrt n2 ok rs ms
  clear h
  go_enter Try.func61, Try.ntmps61
  go_wp2_with fail
  go_loopw [1, 5, 11] (fun s _ i wr => ∃ j : Nat, j ≤ N ∧ i = .int .i64 j ∧ sumB (d.under.take j) ≤ k ∧ s = .int .i64 ((k - sumB (d.under.take j) : Nat) : Int) ∧ ∃ R, MapAt wr bs R ∧ RelG (BlobIn F w) R (nowF d.safe (d.under.take j)) ∧ Wr (fun x => x = bs) w wr) (fun _ _ i _ => N - (intOf i).toNat)
  case atStart => exact ⟨0, by omega, rfl, by simp [sumB], by simp [sumB], RS, MS.out, RS0.out, Wr.refl _ _⟩
  case round =>
    obtain ⟨j, hj, rfl, hle, rfl, R, hM, hR, kw⟩ := hrel
    have row := kw.row R0.out (fun e => N2.out e.symm)
    have zb2 : b < wr.heap.size := row.lt
    have c3 : wr.cell? ⟨b, 3, none⟩ = some (.map (some bs)) := by rw [row.cell]; rfl
    have c4 := row.frozen 4
    have c5 : wr.cell? ⟨b, 4, none⟩ = some (.slice p RW.length cap) := by rw [row.cell]; rfl
    by_cases hlt : j < N
    · have hjw : j < RW.length := by rw [HN.out]; exact hlt
      have hju : j < d.under.length := by rw [HU.out]; exact hlt
      obtain ⟨g, rfl, hc, zg0, hx⟩ := HF.out (by omega)
      obtain ⟨h0, h1⟩ := hx j hjw
      obtain ⟨okk, xp, xn, xc, hxs⟩ := OK.out _ (List.getElem_mem hjw)
      obtain ⟨ek, hB⟩ := AT.out j hjw hju
      have hnext := sumB_next d.under j hju
      have htk := sumB_take d.under (j + 1)
      have hcut := CUT.out
      have hnf := nowF_next d.safe d.under j hju
      have hsr : Srt R := rel_srt hR SRT.out.now
      have hRl : R.length ≤ 30000 := by rw [hR.len]; exact ALL.out j
      have hlenB := gr_len hB
      rw [hxs] at h1 hlenB hB
      have hlenB : xn = d.under[j].2.length := hlenB
      rw [← hlenB] at hnext
      have hik := (KEYS.out _ (List.getElem_mem hju)).1
      rw [← ek] at hik
      have hgb : g ≠ bs := fun e => N5.out (by rw [e]; rfl)
      have eg := kw.block g zg0 hgb
      have d0 : wr.cell? ⟨g, j * 2, none⟩ = some (.int .i64 RW[j].1) := (World.cell?_of_block (a := ⟨g, j * 2, none⟩) eg).trans h0
      have d1 : wr.cell? ⟨g, j * 2 + 1, none⟩ = some (.slice xp xn xc) := (World.cell?_of_block (a := ⟨g, j * 2 + 1, none⟩) eg).trans h1
      have zg : g < wr.heap.size := Nat.lt_of_lt_of_le zg0 kw.size
      have hcN : N ≤ cap := by rw [← HN.out]; exact hc
      have hcutj := hcut wr
      obtain ⟨xk, hxk⟩ : ∃ x, RW[j].1 = x := ⟨_, rfl⟩
      rw [hxk] at d0 ek hik
      obtain ⟨M, hM0⟩ : ∃ M, k - sumB (d.under.take j) = M := ⟨_, rfl⟩
      have HM0 := Lib.hid hM0
      obtain ⟨u1, hu⟩ : ∃ u, wr.alloc (.cells #[.int .i64 xk, .slice xp xn xc] 91) = u := ⟨_, rfl⟩
      have k1 : Wr (fun x => x = bs) w u1 := by rw [← hu]; exact kw.alloc _
      have rv : RowAt u1 wr.heap.size #[.int .i64 xk, .slice xp xn xc] 91 := by rw [← hu]; exact RowAt.new wr _ _
      have hM1 : MapAt u1 bs R := by rw [← hu]; exact hM.keep (al (Below.refl _ _) _)
      have row1 := row.alloc (Obj.cells #[.int .i64 xk, .slice xp xn xc] 91)
      rw [hu] at row1
      have HU1 := Lib.hid hu
      rw [hM0]
      have K1 := Lib.hid k1
      have HM1 := Lib.hid hM1
      have HR := Lib.hid hR
      have EK := Lib.hid ek
      have HB := Lib.hid hB
      have HNX := Lib.hid hnext
      have HTK := Lib.hid htk
      have HNF := Lib.hid hnf
      have HSR := Lib.hid hsr
      have HLB := Lib.hid hlenB
      have HLE := Lib.hid hle
      have hmk : M ≤ k := by omega
      have zw : wr.heap.size ≠ bs := fun e => by have := hM.lt; omega
      clear k1 hM1 hR hxk ek hB hnext htk hnf hsr hlenB hle hcut hcutj hM hu hM0 hx h0 h1 hxs okk hjw hc eg hgb zg0
      by_cases hcut : M < xn
      · have g1 : decide ((M : Int) < (xn : Int)) = true := by simpa using hcut
        obtain ⟨p', c', e', hf'⟩ := HB.out.1.form
        simp only [Value.slice.injEq] at e'
        obtain ⟨rfl, e9, rfl⟩ := e'
        clear e9
        obtain ⟨g', off', rfl, hcc, hg', _⟩ := hf' (by rw [← HLB.out]; omega)
        have hxc : xn ≤ xc := by rw [HLB.out]; exact hcc
        have hrun := fun u => bytes_to (g := g') (off := off') (xn := xn) (M := M) (xc := xc) (by omega) (by omega) u
        have hB := HB.out.1.take (k := M) (by omega)
        have hBl : (d.under[j].2.take M).length ≤ 1000000000 := by
          rw [List.length_take]
          have h1 := sumB_next d.under j hju
          have h2 := sumB_take d.under (j + 1)
          omega
        have HBT := Lib.hid hB
        have HBL := Lib.hid hBl
        clear hcc hf' hg' hB hBl
        go_upto_region 4 with (fail)
        rw [HU1.out]
        clear d0 d1 c3 c4 c5 zb2
        have c3 : u1.cell? ⟨b, 3, none⟩ = some (.map (some bs)) := by rw [row1.cell]; rfl
        have v0 : u1.cell? ⟨wr.heap.size, 0, none⟩ = some (.int .i64 xk) := by rw [rv.cell]; rfl
        have v1 : u1.cell? ⟨wr.heap.size, 1, none⟩ = some (.slice (some ⟨g', off', none⟩) xn xc) := by rw [rv.cell]; rfl
        have zb2 : b < u1.heap.size := row1.lt
        have zv : wr.heap.size < u1.heap.size := rv.lt
        clear row1
        refine region_plan 11 (.calm 0 (.calm 1 (.calm 2 (.calm 3 (.calm 4 (.calm 5 (.calm 6 (.calm 7 (.calm 8 (.calm 9 (.one 10 (.one 11 (.done))))))))))))) (by kernel_rfl) (by kernel_rfl) (by kernel_rfl) rfl (by kernel_rfl) (fun c a d v w h => by cases d <;> exact h) ?_
        intro u3 hu3 hszu3
        repeat (first | (refine' PlanW.skip (by rfl) (by rfl) ?_; simp only [Act.put, List.getElem_toArray, List.getElem_cons_zero, List.getElem_cons_succ, List.setIfInBounds_toArray, List.set_cons_zero, List.set_cons_succ]) | (refine' PlanW.val (by rfl) (by rfl) (fun wr hr => ?_) ?_; rotate_left 1; (focus (obtain ⟨hrc, hrf⟩ := bcell hr; (go_simp <;> with_reducible rfl); done)); simp only [Act.put, List.getElem_toArray, List.getElem_cons_zero, List.getElem_cons_succ, List.setIfInBounds_toArray, List.set_cons_zero, List.set_cons_succ]))
        refine PlanW.one (by rfl) ?_
        have k3 := K1.out.below hu3
        go_wp2_with fail
        have hBu := (HB.out.wr k3 (fun x c f hx => HH.out.off x c f (.inr (.inr (.inl hx)))) (fun _ h => h)).1.take (k := M) (by omega)
        refine (b8_clone _ _ u3 hBu HBL.out).mono ?_
        rintro e w4 ⟨v4, rfl, ho, hb4⟩
        have hu4 := chain hu3 hb4
        have k4 := K1.out.below hu4
        obtain ⟨pv, cv, hv4⟩ := own_form ho
        have HV4 := Lib.hid hv4
        clear hv4
        go_wp2_with fail
        refine ⟨.inr hu4, ?_⟩
        refine PlanW.one (by rfl) ?_
        refine wp_upd _ rfl _ _ _ rfl bs R rfl (HM1.out.keep hu4) HSR.out (by omega) xk rfl hik v4 rfl ⟨_, _, _, HV4.out⟩ ?_
        intro w5 hM5 hg5 hs5
        go_wp2_with fail
        refine ⟨by first | trivial | exact .inl rfl, PlanW.done ?_⟩
        have k5 : Wr (fun x => x = bs) w w5 := k4.grown hg5 (fun q e => by cases e; exact .inl rfl)
        have hv5 : w5.ownsRow w.heap.size 5 1 v4 (d.under[j].2.take M).length (bytVs (d.under[j].2.take M)) := by
          have h1 := own_mono ho (Nat.le_trans K1.out.size hu3.size)
          refine ⟨h1.1, ?_⟩
          rcases ho.2 with h2 | ⟨q, cap', cur', e2, hb2, hq, rest⟩
          · exact .inl h2
          · have zbs := (HM1.out.keep hu3).lt
            exact .inr ⟨q, cap', cur', e2, Nat.le_trans (Nat.le_trans K1.out.size hu3.size) hb2, (hg5.block q (Array.getElem?_eq_some_iff.1 hq).1 (fun e => by cases e; omega)).trans hq, rest⟩
        have row5 := k5.row R0.out (fun e => N2.out e.symm)
        have fin := CUT.out w5 R v4 xk k5 j hju EK.out hM5 HR.out HLE.out (by rw [HM0.out, ← HLB.out]; exact hcut) (by rw [HM0.out]; exact hv5)
        have FIN := Lib.hid fin
        clear c3 v0 v1 zb2 zv hu3 k3 hBu ho hb4 hu4 k4 hM5 hg5 hs5 k5 hv5 fin rv
        have c4 := row5.frozen 4
        have c5 : w5.cell? ⟨b, 4, none⟩ = some (.slice (some ⟨g, 0, none⟩) RW.length cap) := by rw [row5.cell]; rfl
        have zb2 : b < w5.heap.size := row5.lt
        clear row5
        go_wp2_with fail
        exact bodyPost_end (v := .tuple #[]) (by simp [results, Try.results61, go_sem]) rfl ⟨⟨_, rfl⟩, FIN.out⟩
      · have g1 : decide ((M : Int) < (xn : Int)) = false := by simpa using hcut
        have g2 : IntKind.i64.wrap ((M : Int) - (xn : Int)) = (M : Int) - xn := IntWalk.i64_in _ (by omega)
        go_upto_region 5 with (fail)
        rw [HU1.out]
        clear d0 d1 c3 c4 c5 zb2
        have c3 : u1.cell? ⟨b, 3, none⟩ = some (.map (some bs)) := by rw [row1.cell]; rfl
        have v0 : u1.cell? ⟨wr.heap.size, 0, none⟩ = some (.int .i64 xk) := by rw [rv.cell]; rfl
        have v1 : u1.cell? ⟨wr.heap.size, 1, none⟩ = some (.slice xp xn xc) := by rw [rv.cell]; rfl
        have zb2 : b < u1.heap.size := row1.lt
        have zv : wr.heap.size < u1.heap.size := rv.lt
        clear row1
        refine region_below 8 (by kernel_rfl) (by kernel_rfl) ?_
        simp only [List.take_succ_cons, List.take_zero, List.drop_succ_cons, List.drop_zero]
        repeat (first | (refine' InText.skip (by rfl) ?_; simp only [Act.put, List.setIfInBounds_toArray, List.set_cons_zero, List.set_cons_succ]) | (refine' InText.val (by rfl) (fun wr hr => ?_) ?_; rotate_left 1; (focus (obtain ⟨hrc, hrf⟩ := bcell hr; (go_simp <;> with_reducible rfl); done)); simp only [Act.put, List.setIfInBounds_toArray, List.set_cons_zero, List.set_cons_succ]))
        refine fun wrs hrs => ?_
        obtain ⟨hrcs, hrfs⟩ := bcell hrs
        refine wp_upd _ rfl _ _ _ rfl bs R rfl (HM1.out.keep hrs) HSR.out (by omega) xk rfl hik _ rfl ⟨_, _, _, rfl⟩ ?_
        intro w3 hM3 hg3 hs3
        have kS := K1.out.below hrs
        have k3 : Wr (fun x => x = bs) w w3 := kS.grown hg3 (fun q e => by cases e; exact .inl rfl)
        have rv3 : RowAt w3 wr.heap.size #[.int .i64 xk, .slice xp xn xc] 91 := (hg3.block _ (rv.keep hrs).lt (fun e => zw (by cases e; rfl))).trans (rv.keep hrs)
        clear c3 v0 v1 zb2 zv hrs hrcs hrfs rv hg3
        have v1 : w3.cell? ⟨wr.heap.size, 1, none⟩ = some (.slice xp xn xc) := by rw [rv3.cell]; rfl
        have zv : wr.heap.size < w3.heap.size := rv3.lt
        go_wp2_with fail
        go_roundw
        case rel =>
          have hlast : R = R := rfl
          refine ⟨j + 1, by omega, by go_num, ?_, ?_, insF R (xk, .slice xp xn xc), hM3, ?_, k3⟩
          · rw [HNX.out]; have := HM0.out; have := HLE.out; omega
          · rw [HNX.out]; have := HM0.out; have := HLE.out; congr 1; omega
          · rw [HNF.out, ← layF_ins _ HSR.out]
            have e := EK.out
            have hp : d.under[j] = (xk, d.under[j].2) := by rw [e]
            rw [hp]
            exact HR.out.lay HB.out
        case measure => simp [intOf]; omega
    · obtain rfl : j = N := by omega
      have e : d.under.take j = d.under := by rw [← HU.out, List.take_length]
      rw [e] at hle hR
      have fin := FULL.out wr R kw hM (by rw [crash_full _ _ _ hle]; exact hR)
      have FIN := Lib.hid fin
      clear hle hR hM kw row fin e
      go_wp2_with fail
      exact bodyPost_end (v := .tuple #[]) (by simp [results, Try.results61, go_sem]) rfl ⟨⟨_, rfl⟩, FIN.out⟩
end Go.Proofs.Ythjekbbldejlpaa
