/- DiskTorn, over what is asked of the disk. Written by gen_y08.py. -/
import Derived.Test.YtkephcmjigfepaaW08
set_option linter.unusedVariables false
set_option linter.unusedSimpArgs false
namespace Go.Proofs.Ytkephcmjigfepaa
open Go.ChangeShapes Go.WideShapes Go.ChangeAt Go.RowKit
def underOf : List (List Int) → Nat → Blobs
  | [], _ => []
  | B :: l, i => ((i : Int), B) :: underOf l (i + 1)
theorem underOf_len : ∀ (l : List (List Int)) (i : Nat), (underOf l i).length = l.length
  | [], _ => rfl
  | B :: l, i => by rw [underOf, List.length_cons, List.length_cons, underOf_len l]
theorem underOf_snoc : ∀ (l : List (List Int)) (B : List Int) (i : Nat), underOf (l ++ [B]) i = underOf l i ++ [(((i + l.length : Nat) : Int), B)]
  | [], B, i => by simp [underOf]
  | C :: l, B, i => by
    rw [List.cons_append, underOf, underOf, underOf_snoc l B (i + 1), List.cons_append, List.length_cons, show i + 1 + l.length = i + (l.length + 1) by omega]
theorem underOf_drop : ∀ (l : List (List Int)) (i j : Nat), (underOf l i).drop j = underOf (l.drop j) (i + j)
  | l, i, 0 => by simp
  | [], i, j + 1 => by simp [underOf]
  | B :: l, i, j + 1 => by rw [underOf, List.drop_succ_cons, List.drop_succ_cons, underOf_drop l (i + 1) j, show i + 1 + j = i + (j + 1) by omega]
theorem underOf_mem : ∀ {l : List (List Int)} {i : Nat} {x : Int × List Int}, x ∈ underOf l i → (i : Int) ≤ x.1 ∧ x.1 < i + l.length ∧ x.2 ∈ l
  | B :: l, i, x, h => by
    rw [underOf] at h
    rcases List.mem_cons.1 h with rfl | h
    · exact ⟨Int.le_refl _, by simp only [List.length_cons]; omega, List.mem_cons_self ..⟩
    · obtain ⟨h1, h2, h3⟩ := underOf_mem h
      exact ⟨by omega, by simp only [List.length_cons]; omega, List.mem_cons_of_mem _ h3⟩
/-- The first k bytes of blobs, one behind the other. -/
def tornL : Nat → Blobs → Blobs
  | _, [] => []
  | k, (q, B) :: l => if B.length ≤ k then (q, B) :: tornL (k - B.length) l else [(q, B.take k)]
theorem tornL_all : ∀ {l : Blobs} {k : Nat}, sumB l ≤ k → tornL k l = l
  | [], k, _ => rfl
  | (q, B) :: l, k, h => by
    have hs : sumB ((q, B) :: l) = B.length + sumB l := rfl
    rw [hs] at h
    rw [tornL, if_pos (by omega), tornL_all (by omega)]
theorem tornL_min (l : Blobs) (k : Nat) : tornL (min k (sumB l)) l = tornL k l := by
  by_cases h : sumB l ≤ k
  · rw [Nat.min_eq_right h, tornL_all (Nat.le_refl _), tornL_all h]
  · rw [Nat.min_eq_left (by omega)]
theorem ins_last : ∀ {s : Blobs} {q : Int} {B : List Int}, (∀ x ∈ s, x.1 < q) → insF s (q, B) = s ++ [(q, B)]
  | [], _, _, _ => rfl
  | x :: s, q, B, h => by
    have := h x (List.mem_cons_self ..)
    rw [insF, if_neg (by simp only []; omega), ins_last (fun y hy => h y (List.mem_cons_of_mem _ hy))]
    rfl
theorem crash_torn : ∀ (l : List (List Int)) (s : Blobs) (k i : Nat), Srt s → (∀ x ∈ s, x.1 < (i : Int)) → crashGo List.length (fun B k => B.take k) s k (underOf l i) = s ++ tornL k (underOf l i)
  | [], s, k, i, _, _ => by simp [underOf, tornL, crashGo]
  | B :: l, s, k, i, hs, hx => by
    have e : crashGo List.length (fun B k => B.take k) s k (underOf (B :: l) i) = if B.length ≤ k then crashGo List.length (fun B k => B.take k) (layF s ((i : Int), B)) (k - B.length) (underOf l (i + 1)) else layF s ((i : Int), B.take k) := rfl
    rw [e, underOf, tornL]
    have hs2 := hs.lay ((i : Int), B)
    have e2 : layF s ((i : Int), B) = s ++ [((i : Int), B)] := by rw [layF_ins _ hs, ins_last hx]
    have e3 : layF s ((i : Int), B.take k) = s ++ [((i : Int), B.take k)] := by rw [layF_ins _ hs, ins_last hx]
    by_cases c : B.length ≤ k
    · rw [if_pos c, if_pos c, crash_torn l _ _ (i + 1) hs2 (fun x h => by
        rw [e2] at h
        rcases List.mem_append.1 h with h | h
        · have := hx x h; omega
        · have := List.mem_singleton.1 h; subst this; simp only []; omega), e2, List.append_assoc]
      rfl
    · rw [if_neg c, if_neg c, e3]
theorem put_fits {d : St} (hw : d.wait = 0) (hf : d.fails = 0) {k : Int} {B : List Int} (h : ¬ d.room < (sumB (layF d.all (k, B)) : Int)) : putSt d k B = ({ d with under := d.under ++ [(k, B)] }, 0) := by
  have ha : d.falls = false := by unfold St.falls askF; rw [hw, hf]; rfl
  have he : d.asked = d := by
    obtain ⟨r, f, w, s, u⟩ := d
    have hw : w = 0 := hw
    have hf : f = 0 := hf
    subst hw hf
    rfl
  unfold putSt
  rw [ha, if_neg (by decide), if_neg h, he]
/-- The state behind j puts. -/
def tornSt (Bs : List (List Int)) (j : Nat) : St := ⟨10000, 0, 0, [], underOf (Bs.take j) 0⟩
theorem tornSt_succ {Bs : List (List Int)} {j : Nat} (h : j < Bs.length) : ({ tornSt Bs j with under := (tornSt Bs j).under ++ [((j : Int), Bs[j])] } : St) = tornSt Bs (j + 1) := by
  unfold tornSt
  rw [take_succ_get Bs j h, underOf_snoc, List.length_take]
  congr 3
  have : min j Bs.length = j := by omega
  rw [this, Nat.zero_add]
theorem torn_all (Bs : List (List Int)) (n : Nat) (K : Int) : (crashSt (tornSt Bs n) K).1.all = tornL K.toNat (underOf (Bs.take n) 0) := by
  have e : (crashSt (tornSt Bs n) K).1.all = crashGo List.length (fun B k => B.take k) [] (keptOf (tornSt Bs n) K) (underOf (Bs.take n) 0) := rfl
  rw [e, crash_torn _ [] _ 0 List.Pairwise.nil (fun x h => by cases h), List.nil_append]
  exact tornL_min _ _
/-- What is told of the next one, and of those behind it. -/
theorem torn_step {Bs : List (List Int)} {n t k : Nat} (ht : t < n) (hn : n ≤ Bs.length) :
    (Bs[t].length ≤ k → getF (tornL k ((underOf (Bs.take n) 0).drop t)) (t : Int) = some Bs[t] ∧ ∀ i : Nat, t + 1 ≤ i → getF (tornL k ((underOf (Bs.take n) 0).drop t)) (i : Int) = getF (tornL (k - Bs[t].length) ((underOf (Bs.take n) 0).drop (t + 1))) (i : Int)) ∧
    (¬ Bs[t].length ≤ k → getF (tornL k ((underOf (Bs.take n) 0).drop t)) (t : Int) = some (Bs[t].take k) ∧ ∀ i : Nat, t + 1 ≤ i → getF (tornL k ((underOf (Bs.take n) 0).drop t)) (i : Int) = none) := by
  have h1 : t < (Bs.take n).length := by rw [List.length_take]; omega
  have e : (underOf (Bs.take n) 0).drop t = ((t : Int), Bs[t]) :: (underOf (Bs.take n) 0).drop (t + 1) := by
    rw [underOf_drop, underOf_drop, List.drop_eq_getElem_cons h1, underOf, Nat.zero_add, List.getElem_take]
    congr 2
    omega
  rw [e, tornL]
  constructor
  · intro h
    rw [if_pos h]
    refine ⟨by rw [getF, if_pos rfl], fun i hi => ?_⟩
    rw [getF, if_neg (by simp only []; omega)]
  · intro h
    rw [if_neg h]
    refine ⟨by rw [getF, if_pos rfl], fun i hi => ?_⟩
    rw [getF, if_neg (by simp only []; omega), getF]
set_option maxRecDepth 10000 in
set_option maxHeartbeats 16000000 in
theorem diskTorn_core (I : DiskI) (w : World) (v : Value) (keep : Int) (hd : RowsBIn w v) (hkeep : i64 keep) : Calls Try.prog 8 #[v, .int .i64 keep] w fun e w' => e = .returned (.bool true) ∧ Below w.heap.size w w' := by
  obtain ⟨l, hl, hok, hlen⟩ := hd
  obtain ⟨p, cap, rfl, hf⟩ := hl.form
  obtain ⟨N, hN⟩ : ∃ N, l.length = N := ⟨_, rfl⟩
  have ar := around_bd keep 130 (by omega)
  have an := fun u => r_around keep 130 hkeep.1 hkeep.2 (by omega) (by omega) u
  obtain ⟨K, hK⟩ : ∃ Z, aroundF keep 130 = Z := ⟨_, rfl⟩
  rw [hK] at ar an
  obtain ⟨Kn, rfl⟩ : ∃ k : Nat, K = k := ⟨K.toNat, by omega⟩
  obtain ⟨n, hn⟩ : ∃ n, min N 6 = n := ⟨_, rfl⟩
  have hmin : min (N : Int) 6 = (n : Int) := by omega
  have bn6 : n ≤ 6 := by omega
  have bnN : n ≤ N := by omega
  obtain ⟨Bs, hBs⟩ : ∃ Bs, l.map (fun x : BRow => x.2.take 20) = Bs := ⟨_, rfl⟩
  have lBs : Bs.length = N := by rw [← hBs, List.length_map, hN]
  have atB : ∀ j (h : j < l.length) (h2 : j < Bs.length), Bs[j] = l[j].2.take 20 := fun j h h2 => by subst hBs; simp
  have AN := Lib.hid an
  have HF := Lib.hid hf
  have HN := Lib.hid hN
  have OK := Lib.hid hok
  have LBS := Lib.hid lBs
  have ATB := Lib.hid atB
  have i10 : i64 10000 := ⟨by decide, by decide⟩
  unfold maxLen at hlen
  rw [hN] at hlen ⊢
  clear hK an hf hN hok hl hBs lBs atB hn
  -- what is known of an element
  have elem : ∀ j (h : j < l.length) (h2 : j < Bs.length), ∃ (pb : Option Addr) (cb L mB : Nat), l[j].1 = .slice pb L cb ∧ BytsAt w (.slice pb L cb) l[j].2 ∧ BytsAt w (.slice pb mB cb) Bs[j] ∧ bytOk Bs[j] ∧ Bs[j].length = mB ∧ mB ≤ 20 ∧ (mB : Int) ≤ (cb : Int) ∧
      ∀ u, BytsAt u (.slice pb L cb) l[j].2 → Calls Try.prog 15 #[.slice pb L cb, .int .i64 20] u fun e u' => e = .returned (.slice pb mB cb) ∧ Below u.heap.size u u' := fun j h h2 => by
    obtain ⟨o4, o5, o6⟩ := OK.out j h
    obtain ⟨pb, cb, e⟩ := o4.shape
    rw [e] at o4
    have hb1 := byts_cut o4 (Nat.min_le_left l[j].2.length 20)
    have he : l[j].2.take (min l[j].2.length 20) = Bs[j] := by
      rw [ATB.out j h h2]
      by_cases c : l[j].2.length ≤ 20
      · rw [Nat.min_eq_left c, List.take_length, List.take_of_length_le c]
      · rw [Nat.min_eq_right (by omega)]
    rw [he] at hb1
    have lb : Bs[j].length = min l[j].2.length 20 := by rw [← he, List.length_take]; omega
    refine ⟨pb, cb, l[j].2.length, min l[j].2.length 20, e, o4, hb1, by rw [← he]; exact o5.take _, lb, by omega, ?_, fun u hu => r8_few _ _ 20 u hu o6 (by omega)⟩
    obtain ⟨p', c', e2, hcc⟩ := hb1.form
    simp only [slCut, Value.slice.injEq] at e2
    obtain ⟨_, e3, rfl⟩ := e2
    rcases Nat.eq_zero_or_pos Bs[j].length with hz | hz
    · omega
    · obtain ⟨_, _, _, h3, _⟩ := hcc hz
      omega
  have ELEM := Lib.hid elem
  clear elem
  go_enter Try.func8, Try.ntmps8
  go_wp2_with fail
  refine (I.new 10000 w i10).mono ?_
  rintro e w1 ⟨pd, Fa, rfl, hA, hFa, k1⟩
  obtain ⟨pa, rfl⟩ := I.ptr hA
  have ok0 : StOk (tornSt Bs 0) 0 0 := StOk.new i10
  replace hA : I.At w1 Fa (.pointer (some pa)) (tornSt Bs 0) := hA
  obtain ⟨T, hT⟩ : ∃ T, tornSt Bs = T := ⟨_, rfl⟩
  rw [hT] at hA ok0
  have HT := Lib.hid hT
  clear hT
  go_wp2_with fail
  go_loopw [7] (fun i wr => ∃ (j : Nat) (F : Foot), j ≤ n ∧ i = .int .i64 j ∧ Below w.heap.size w wr ∧ I.At wr F (.pointer (some pa)) (T j) ∧ (∀ b, F b → w.heap.size ≤ b) ∧ StOk (T j) j (20 * j)) (fun i _ => n - (intOf i).toNat)
  case atStart => exact ⟨0, Fa, by omega, rfl, k1, hA, hFa, ok0⟩
  case round =>
    clear hA hFa ok0 k1
    obtain ⟨j, F, hj, rfl, kw, hA, hF, ok⟩ := hrel
    by_cases hlt : j < n
    · obtain ⟨g, off, rfl, hc, hg, hx⟩ := HF.out (by rw [HN.out]; omega)
      rw [HN.out] at hc
      have hjl : j < l.length := by rw [HN.out]; omega
      have hjB : j < Bs.length := by rw [LBS.out]; omega
      have x0 := hx j hjl
      obtain ⟨pb, cb, L, mB, q1, q2, q3, q4, q5, q6, q7, q8⟩ := ELEM.out j hjl hjB
      rw [q1] at x0
      have bj : (j : Int) < n := by omega
      have bjN : (j : Int) < N := by omega
      have ij : i64 (j : Int) := by constructor <;> omega
      have hsm := ok.sum
      have hnw := nowF_sum (T j).under (T j).safe
      have e1 : putSt (T j) (j : Int) Bs[j] = (T (j + 1), 0) := by
        have hls : sumB (layF (T j).all ((j : Int), Bs[j])) ≤ sumB (T j).all + Bs[j].length := layF_sum (T j).all ((j : Int), Bs[j])
        have hnw2 : sumB (T j).all ≤ sumB (T j).safe + sumB (T j).under := hnw
        have er : (T j).room = 10000 := by rw [← HT.out]; rfl
        rw [put_fits (by rw [← HT.out]; rfl) (by rw [← HT.out]; rfl) (by rw [er]; omega), ← HT.out, tornSt_succ hjB]
      have okP := (ok.put (k := (j : Int)) ij q4).mono (Nat.le_refl _) (show 20 * j + Bs[j].length ≤ 20 * (j + 1) by omega)
      have put := fun u (F : Foot) vb (hu : I.At u F (.pointer (some pa)) (T j)) (hb : BytsAt u vb Bs[j]) => I.put u F _ (T j) (j : Int) vb Bs[j] j (20 * j) hu ok (by omega) (by omega) ij hb q4 (by omega)
      rw [e1] at okP put
      simp only [] at okP put
      obtain ⟨B, hB⟩ : ∃ B, Bs[j] = B := ⟨_, rfl⟩
      rw [hB] at put q3
      obtain ⟨B0, hB0⟩ : ∃ B, l[j].2 = B := ⟨_, rfl⟩
      rw [hB0] at q2 q8
      have PUT := Lib.hid put
      have OKP := Lib.hid okP
      have Q2 := Lib.hid q2
      have Q3 := Lib.hid q3
      have Q8 := Lib.hid q8
      have y0 := keepc kw hg x0
      have zg : g < wr.heap.size := Nat.lt_of_lt_of_le hg kw.size
      clear hx x0 q1 q2 q3 q4 q5 q8 e1 okP put hB hB0 hjl hjB hsm hnw ok
      go_wp2_with fail
      refine (Q8.out _ (Q2.out.keep kw)).mono ?_
      rintro e w3 ⟨rfl, hv⟩
      replace kw := chain kw hv
      replace hA := I.keep hA hv
      clear hv y0 zg
      go_wp2_with fail
      refine (PUT.out _ _ _ hA (Q3.out.keep kw)).mono ?_
      rintro e w4 ⟨F2, rfl, hA2, hs⟩
      have low1 := hs.low hF kw.size
      replace kw := kw.trans (hs.below hF kw.size)
      clear hs hA hF
      go_wp2_with fail
      go_roundw
      case rel => exact ⟨j + 1, F2, by omega, by go_num, kw, hA2, low1, OKP.out⟩
      case measure => simp [intOf]; omega
    · obtain rfl : j = n := by omega
      have hsm := ok.sum
      have left := fun u (F : Foot) (hu : I.At u F (.pointer (some pa)) (T j)) => I.left u F _ (T j) j (20 * j) hu ok (by omega) (by omega)
      obtain ⟨U, hU⟩ : ∃ m, sumB (T j).under = m := ⟨_, rfl⟩
      rw [hU] at left hsm
      have iK : i64 (Kn : Int) := by constructor <;> omega
      have wU : IntKind.i64.wrap ((U : Int) - (Kn : Int)) = (U : Int) - Kn := IntWalk.i64_in _ (by omega)
      have crash := fun u (F : Foot) (hu : I.At u F (.pointer (some pa)) (T j)) => I.crash u F _ (T j) (Kn : Int) j (20 * j) hu ok (by omega) (by omega) iK
      have ec : (crashSt (T j) (Kn : Int)).2 = max ((U : Int) - Kn) 0 := by
        have e : (crashSt (T j) (Kn : Int)).2 = (sumB (T j).under : Int) - (min (Kn : Int).toNat (sumB (T j).under) : Nat) := rfl
        rw [e, hU]
        omega
      rw [ec] at crash
      have ok2 := ok.crash (Kn : Int)
      have all2 : (crashSt (T j) (Kn : Int)).1.all = tornL Kn (underOf (Bs.take j) 0) := by rw [← HT.out]; exact torn_all Bs j Kn
      obtain ⟨D2, hD2⟩ : ∃ d, (crashSt (T j) (Kn : Int)).1 = d := ⟨_, rfl⟩
      rw [hD2] at crash ok2 all2
      have GET := Lib.hid (fun (i : Int) (ii : i64 i) u (F : Foot) (hu : I.At u F (.pointer (some pa)) D2) => I.get u F _ D2 i j (20 * j) hu ok2 (by omega) (by omega) ii)
      have LEFT := Lib.hid left
      have CRASH := Lib.hid crash
      have ALL := Lib.hid all2
      clear left crash all2 ok ok2 hD2 hU ec hsm
      go_wp2_with (go_at_call 9; refine (AN.out _).mono ?_; rintro e w' ⟨rfl, rfl⟩)
      refine (LEFT.out _ _ hA).mono ?_
      rintro e w3 ⟨rfl, hv⟩
      replace kw := chain kw hv
      replace hA := I.keep hA hv
      clear hv
      go_wp2_with fail
      refine (CRASH.out _ _ hA).mono ?_
      rintro e w4 ⟨F2, rfl, hA2, hs⟩
      have low1 := hs.low hF kw.size
      replace kw := kw.trans (hs.below hF kw.size)
      clear hs hA hF
      go_wp2_with fail
      go_loopw [8, 10, 11] (fun lf to i ws => ∃ (t k : Nat) (tb : Bool), t ≤ j ∧ i = .int .i64 t ∧ lf = .int .i64 k ∧ to = .bool tb ∧ k ≤ Kn ∧ (∀ x : Nat, t ≤ x → getF D2.all (x : Int) = if tb = true then none else getF (tornL k ((underOf (Bs.take j) 0).drop t)) (x : Int)) ∧ Below w4.heap.size w4 ws) (fun _ _ i _ => j - (intOf i).toNat)
      case atStart => exact ⟨0, Kn, false, by omega, rfl, rfl, rfl, by omega, fun x _ => by rw [ALL.out]; simp, Below.refl _ _⟩
      case round =>
        obtain ⟨t, k, tb, ht, rfl, rfl, rfl, hk, hget, kt⟩ := hrel
        have kwt := chain kw kt
        have hAt := I.keep hA2 kt
        by_cases htj : t < j
        · obtain ⟨g, off, rfl, hc, hg, hx⟩ := HF.out (by rw [HN.out]; omega)
          rw [HN.out] at hc
          have hjl : t < l.length := by rw [HN.out]; omega
          have hjB : t < Bs.length := by rw [LBS.out]; omega
          have x0 := hx t hjl
          obtain ⟨pb, cb, L, mB, q1, q2, q3, q4, q5, q6, q7, q8⟩ := ELEM.out t hjl hjB
          rw [q1] at x0
          have bj : (t : Int) < j := by omega
          have bjN : (t : Int) < N := by omega
          have it : i64 (t : Int) := by constructor <;> omega
          obtain ⟨st1, st2⟩ := torn_step (Bs := Bs) (n := j) (t := t) (k := k) htj (by rw [LBS.out]; omega)
          have g0 := hget t (Nat.le_refl _)
          have gt := GET.out (t : Int) it
          have eg : getSt D2 (t : Int) = ((getF D2.all (t : Int)).getD [], (getF D2.all (t : Int)).isSome) := rfl
          rw [eg] at gt
          rw [q5] at st1 st2
          have y0 := keepc kwt hg x0
          have zg : g < wr.heap.size := Nat.lt_of_lt_of_le hg kwt.size
          obtain ⟨B, hB⟩ : ∃ B, Bs[t] = B := ⟨_, rfl⟩
          rw [hB] at q3 q4 q5 st1 st2
          obtain ⟨B0, hB0⟩ : ∃ B, l[t].2 = B := ⟨_, rfl⟩
          rw [hB0] at q2 q8
          have Q2 := Lib.hid q2
          have Q3 := Lib.hid q3
          have Q4 := Lib.hid q4
          have Q5 := Lib.hid q5
          have Q8 := Lib.hid q8
          have ST1 := Lib.hid st1
          have ST2 := Lib.hid st2
          have HG := Lib.hid hget
          have G0 := Lib.hid g0
          have GT := Lib.hid gt
          clear hx x0 q1 q2 q3 q4 q5 q8 hB hB0 hjl hjB st1 st2 hget g0 gt eg
          go_wp2_with fail
          refine (Q8.out _ (Q2.out.keep kwt)).mono ?_
          rintro e v1 ⟨rfl, hv⟩
          replace kwt := chain kwt hv
          replace kt := chain kt hv
          replace hAt := I.keep hAt hv
          clear hv y0 zg
          cases tb
          · by_cases c : mB ≤ k
            · obtain ⟨h1, h2⟩ := ST1.out c
              have g0 := G0.out
              rw [if_neg (by decide), h1] at g0
              have gt := GT.out
              rw [g0] at gt
              simp only [Option.getD_some, Option.isSome_some] at gt
              have GTH := Lib.hid gt
              have NX : ∀ x : Nat, t + 1 ≤ x → getF D2.all (x : Int) = if false = true then none else getF (tornL (k - mB) ((underOf (Bs.take j) 0).drop (t + 1))) (x : Int) := fun x hx => by
                rw [HG.out x (by omega), if_neg (by decide), if_neg (by decide)]
                exact h2 x hx
              have NXH := Lib.hid NX
              have hmm : min (mB : Int) (mB : Int) = mB := Int.min_self _
              have hmk : min (mB : Int) (k : Int) = mB := by omega
              have wk : IntKind.i64.wrap ((k : Int) - (mB : Int)) = ((k - mB : Nat) : Int) := by rw [IntWalk.i64_in _ (by omega)]; omega
              clear h1 h2 g0 gt NX
              go_wp2_with fail
              refine (GTH.out _ _ hAt).mono ?_
              rintro e v2 ⟨x2, rfl, hx2, hv⟩
              replace kwt := chain kwt hv
              replace kt := chain kt hv
              obtain ⟨p2, c2, rfl⟩ := hx2.shape
              rw [Q5.out] at hx2 ⊢
              clear hv hAt
              go_wp2_with fail
              refine (r6_same _ _ B B _ hx2 (Q3.out.keep kwt) Q4.out Q4.out).mono ?_
              rintro e v3 ⟨rfl, hv⟩
              replace kwt := chain kwt hv
              replace kt := chain kt hv
              clear hv hx2
              go_wp2_with fail
              go_roundw
              case rel => exact ⟨t + 1, k - mB, false, by omega, by go_num, by first | rfl | rw [wk], by first | rfl | simp, by omega, NXH.out, kt⟩
              case measure => simp [intOf]; omega
            · obtain ⟨h1, h2⟩ := ST2.out c
              have g0 := G0.out
              rw [if_neg (by decide), h1] at g0
              have gt := GT.out
              rw [g0] at gt
              simp only [Option.getD_some, Option.isSome_some] at gt
              have GTH := Lib.hid gt
              have lk : (B.take k).length = k := by rw [List.length_take, Q5.out]; omega
              have LK := Lib.hid lk
              have NX : ∀ x : Nat, t + 1 ≤ x → getF D2.all (x : Int) = if true = true then none else getF (tornL 0 ((underOf (Bs.take j) 0).drop (t + 1))) (x : Int) := fun x hx => by
                rw [HG.out x (by omega), if_neg (by decide), if_pos rfl]
                exact h2 x hx
              have NXH := Lib.hid NX
              have hmm : min (mB : Int) (k : Int) = k := by omega
              have hkc : (k : Int) ≤ (cb : Int) := by omega
              have hkm : (k : Int) < (mB : Int) := by omega
              have wk : IntKind.i64.wrap ((k : Int) - (k : Int)) = 0 := by rw [Int.sub_self]; decide
              clear h1 h2 g0 gt NX lk
              go_wp2_with fail
              refine (GTH.out _ _ hAt).mono ?_
              rintro e v2 ⟨x2, rfl, hx2, hv⟩
              replace kwt := chain kwt hv
              replace kt := chain kt hv
              obtain ⟨p2, c2, rfl⟩ := hx2.shape
              rw [LK.out] at hx2 ⊢
              clear hv hAt
              go_wp2_with fail
              refine (r6_same _ _ (B.take k) (B.take k) _ hx2 (BytsAt.take (Q3.out.keep kwt) (show k ≤ mB by omega)) (Q4.out.take k) (Q4.out.take k)).mono ?_
              rintro e v3 ⟨rfl, hv⟩
              replace kwt := chain kwt hv
              replace kt := chain kt hv
              clear hv hx2
              go_wp2_with fail
              go_roundw
              case rel => exact ⟨t + 1, 0, true, by omega, by go_num, by first | rfl | simp, by first | rfl | simp, by omega, NXH.out, kt⟩
              case measure => simp [intOf]; omega
          · have g0 := G0.out
            rw [if_pos rfl] at g0
            have gt := GT.out
            rw [g0] at gt
            simp only [Option.getD_none, Option.isSome_none] at gt
            have GTH := Lib.hid gt
            have NX : ∀ x : Nat, t + 1 ≤ x → getF D2.all (x : Int) = if true = true then none else getF (tornL k ((underOf (Bs.take j) 0).drop (t + 1))) (x : Int) := fun x hx => by
              rw [HG.out x (by omega), if_pos rfl, if_pos rfl]
            have NXH := Lib.hid NX
            have hmm : min (mB : Int) 0 = 0 := by omega
            clear g0 gt NX
            go_wp2_with fail
            refine (GTH.out _ _ hAt).mono ?_
            rintro e v2 ⟨x2, rfl, hx2, hv⟩
            replace kwt := chain kwt hv
            replace kt := chain kt hv
            obtain ⟨p2, c2, rfl⟩ := hx2.shape
            clear hv hAt
            simp only [List.length_nil] at hx2 ⊢
            go_wp2_with fail
            refine (r6_same _ _ [] [] _ hx2 BytsAt.nil (bytOk_small rfl) (bytOk_small rfl)).mono ?_
            rintro e v3 ⟨rfl, hv⟩
            replace kwt := chain kwt hv
            replace kt := chain kt hv
            clear hv hx2
            go_wp2_with fail
            go_roundw
            case rel => exact ⟨t + 1, k, true, by omega, by go_num, rfl, rfl, hk, NXH.out, kt⟩
            case measure => simp [intOf]; omega
        · obtain rfl : t = j := by omega
          go_wp2_with fail
          refine (l8_lives I _).mono ?_
          rintro e w9 ⟨rfl, hv9⟩
          go_wp2
          go_ret
          exact ⟨rfl, chain kwt hv9⟩
end Go.Proofs.Ytkephcmjigfepaa
