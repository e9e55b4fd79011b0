/- Texts behind each other. -/
import Derived.Test.YthjekbbldejlpaaZ29
import Derived.Deep.CutRange
import Derived.Test.YthjekbbldejlpaaZ16
import Derived.Test.YthjekbbldejlpaaZ21
import Derived.Lib.MinMax
/- StoreCrashes, over what is asked of the store. -/
set_option linter.unusedVariables false
set_option linter.unusedSimpArgs false
namespace Go.Proofs.Ythjekbbldejlpaa
open Go.ChangeShapes Go.WideShapes Go.ChangeAt Go.RowKit
/-- What holds ahead of a deed. -/
structure CrInv (I : StoreI) (w wr : World) (R T Y pa j : Nat) (st : St) (F : Foot) (x0 x1 : Value) (ts : Nat → Int) (vs : Nat → Value) (Ls : Nat → List (List Int)) : Prop where
  kw : Below w.heap.size w wr
  hA : I.At wr F (.pointer (some ⟨pa, 0, none⟩)) st
  low : ∀ b, F b → w.heap.size ≤ b
  rR : RowAt wr R #[.int .i64 st.room, .int .i64 st.fails, .int .i64 st.wait, x0, x1] 39
  hR : RefAt F wr (.agg #[.int .i64 st.room, .int .i64 st.fails, .int .i64 st.wait, x0, x1]) st
  nR : ¬ F R
  h9 : St9 st j
  full : Full st
  rT : RowAt wr T #[.int .i64 (ts 0), .int .i64 (ts 1), .int .i64 (ts 2), .int .i64 (ts 3)] 47
  nT : ¬ F T
  rY : RowAt wr Y #[vs 0, vs 1, vs 2, vs 3] 48
  nY : ¬ F Y
  bods : Bods w wr F w.heap.size vs Ls
  told : ∀ k : Nat, k < 4 → Told st.safe st.under k (Ls k) (ts k)
  len : ∀ k, k < 4 → (Ls k).length ≤ j
  nn : ∀ k, k < 4 → 0 ≤ ts k
theorem CrInv.keep {I : StoreI} {w wr w' : World} {R T Y pa j : Nat} {st : St} {F : Foot} {x0 x1 : Value} {ts : Nat → Int} {vs : Nat → Value} {Ls : Nat → List (List Int)} (h : CrInv I w wr R T Y pa j st F x0 x1 ts vs Ls) (hb : Below wr.heap.size wr w') : CrInv I w w' R T Y pa j st F x0 x1 ts vs Ls :=
  ⟨chain h.kw hb, I.keep h.hA hb, h.low, h.rR.keep hb, h.hR.keep hb, h.nR, h.h9, h.full, h.rT.keep hb, h.nT, h.rY.keep hb, h.nY, h.bods.keep hb, h.told, h.len, h.nn⟩
theorem four_at (f : Nat → Value) : ∀ k, k < 4 → (#[f 0, f 1, f 2, f 3] : Array Value)[k]? = some (f k)
  | 0, _ => rfl
  | 1, _ => rfl
  | 2, _ => rfl
  | 3, _ => rfl
  | _ + 4, h => absurd h (by omega)
theorem four_set (f : Nat → Value) (x : Value) : ∀ k, k < 4 → (#[f 0, f 1, f 2, f 3] : Array Value).setIfInBounds k x = #[(if 0 = k then x else f 0), (if 1 = k then x else f 1), (if 2 = k then x else f 2), (if 3 = k then x else f 3)]
  | 0, _ => rfl
  | 1, _ => rfl
  | 2, _ => rfl
  | 3, _ => rfl
  | _ + 4, h => absurd h (by omega)
/-- What is there is told of an id. -/
theorem CrInv.tell {I : StoreI} {w wr : World} {R T Y pa j : Nat} {st : St} {F : Foot} {x0 x1 : Value} {ts : Nat → Int} {vs : Nat → Value} {Ls : Nat → List (List Int)} (h : CrInv I w wr R T Y pa j st F x0 x1 ts vs Ls) {k : Nat} (hk : k < 4) (h0 : sumB st.under = 0) (hT : w.heap.size ≤ T) (hR : R ≠ T) (hY : Y ≠ T) :
    CrInv I w (wr.setCell ⟨T, k, none⟩ (.int .i64 (of9 st k).2.1)) R T Y pa j st F x0 x1 (fun i => if i = k then (of9 st k).2.1 else ts i) vs Ls := by
  have hu := full_nil h.full h0
  have hn := (h.told k hk).now h.h9.ok.srt
  refine ⟨h.kw.setCell (p := ⟨T, k, none⟩) hT _, I.setc h.hA h.nT k _, h.low, h.rR.other (p := ⟨T, k, none⟩) hR _, h.hR.setc h.rT (by decide) (by decide) k _, h.nR, h.h9, h.full, ?_, h.nT, h.rY.other (p := ⟨T, k, none⟩) hY _, h.nY, h.bods.set h.rT (by decide) k _, fun i hi => ?_, h.len, fun i hi => ?_⟩
  · have r := h.rT.set k (.int .i64 (of9 st k).2.1)
    rw [four_set (fun i => .int .i64 (ts i)) _ k hk] at r
    have e : ∀ i : Nat, (if i = k then Value.int .i64 (of9 st k).2.1 else .int .i64 (ts i)) = .int .i64 (if i = k then (of9 st k).2.1 else ts i) := fun i => by split <;> rfl
    rw [e 0, e 1, e 2, e 3] at r
    exact r
  · by_cases e : i = k
    · subst e
      simp only [if_true]
      exact (h.told i hi).tell hu
    · simp only [if_neg e]
      exact h.told i hi
  · by_cases e : i = k
    · simp only [if_pos e]
      exact hn.2.2.1
    · simp only [if_neg e]
      exact h.nn i hi
/-- A body more is kept. -/
theorem CrInv.more {I : StoreI} {w u u3 : World} {R T Y pa j n K : Nat} {D : St} {F : Foot} {x0 x1 v' c : Value} {ts : Nat → Int} {vs : Nat → Value} {Ls : Nat → List (List Int)} {xs : List Value} {B : List Int}
    (kw : Below w.heap.size w u) (hA : I.At u F (.pointer (some ⟨pa, 0, none⟩)) D) (low : ∀ b, F b → w.heap.size ≤ b) (rR : RowAt u R #[.int .i64 D.room, .int .i64 D.fails, .int .i64 D.wait, x0, x1] 39)
    (hR : RefAt F u (.agg #[.int .i64 D.room, .int .i64 D.fails, .int .i64 D.wait, x0, x1]) D) (nR : ¬ F R) (h9 : St9 D (j + 1)) (full : Full D)
    (rT : RowAt u T #[.int .i64 (ts 0), .int .i64 (ts 1), .int .i64 (ts 2), .int .i64 (ts 3)] 47) (nT : ¬ F T) (rY : RowAt u Y #[vs 0, vs 1, vs 2, vs 3] 48) (nY : ¬ F Y)
    (bo : Bods w u F w.heap.size vs Ls) (hK : K < 4) (told : ∀ k : Nat, k < 4 → Told D.safe D.under k (if k = K then (Ls K).take n ++ [B] else Ls k) (ts k)) (len : ∀ k, k < 4 → (Ls k).length ≤ j) (nn : ∀ k, k < 4 → 0 ≤ ts k)
    (own : u.ownsRow w.heap.size 22 1 (vs K) (Ls K).length xs) (hx : ∀ (j : Nat) (B : List Int), (Ls K)[j]? = some B → ∃ v, xs[j]? = some v ∧ BytsAt w v B ∧ bytOk B) (hn : n ≤ (Ls K).length)
    (h1 : u3.ownsRow w.heap.size 22 1 v' (n + 1) (xs.take n ++ [c])) (h2 : u.grownBy u3 (vs K).ownBlock) (h3 : v'.ownBlock = (vs K).ownBlock ∨ v'.ownBlock = some u.heap.size) (hc : BytsAt w c B) (oB : bytOk B)
    (hRY : R ≠ Y) (hTY : T ≠ Y) (hwY : w.heap.size ≤ Y) :
    CrInv I w (u3.setCell ⟨Y, K, none⟩ v') R T Y pa (j + 1) D F x0 x1 ts (fun i => if i = K then v' else vs i) (fun i => if i = K then (Ls K).take n ++ [B] else Ls i) := by
  have hF : ∀ b, F b → b < u.heap.size := fun b hb => I.lt hA b hb
  have hA3 := I.grown hA (bo.out K hK) h2
  have rR3 := row_grown rR (by decide) own h2
  have rT3 := row_grown rT (by decide) own h2
  have rY3 := row_grown rY (by decide) own h2
  have hR3 := hR.grown own h2
  have bo3 := bo.app hK hF hn own hx h1 h2 h3 hc oB
  have kw3 := Below.own kw own h2
  refine ⟨kw3.setCell (p := ⟨Y, K, none⟩) hwY _, I.setc hA3 nY K _, low, rR3.other (p := ⟨Y, K, none⟩) hRY _, hR3.setc rY3 (by decide) (by decide) K _, nR, h9, full, rT3.other (p := ⟨Y, K, none⟩) hTY _, nT, ?_, nY, bo3.set rY3 (by decide) K _, fun i hi => ?_, fun i hi => ?_, nn⟩
  · have r := rY3.set K v'
    rw [four_set vs _ K hK] at r
    exact r
  · exact told i hi
  · by_cases e : i = K
    · simp only [if_pos e, List.length_append, List.length_singleton, List.length_take]
      have := len K hK
      omega
    · simp only [if_neg e]
      exact Nat.le_succ_of_le (len i hi)
set_option maxRecDepth 10000 in
set_option maxHeartbeats 16000000 in
theorem storeCrashes_core (I : StoreI) (w : World) (v : Value) (hd : Deeds9In w v) : Calls Try.prog 5 #[v] w fun e w' => e = .returned (.bool true) ∧ Below w.heap.size w w' := by
  obtain ⟨l, hl, hok, hlen⟩ := hd
  obtain ⟨p, cap, rfl, hf⟩ := hl.form
  obtain ⟨N, hN⟩ : ∃ N, l.length = N := ⟨_, rfl⟩
  have HF := Lib.hid hf
  have HN := Lib.hid hN
  have OK := Lib.hid hok
  unfold maxLen at hlen
  rw [hN] at hlen ⊢
  clear hf hN hok hl
  go_enter Try.func5, Try.ntmps5
  go_wp2_with fail
  refine (I.new 100000 w ⟨by decide, by decide⟩).mono ?_
  rintro e w1 ⟨pd, F1, rfl, hA1, hF1, k1⟩
  obtain ⟨pa, rfl⟩ := I.ptr hA1
  go_wp2_with fail
  refine (rf_new 100000 F1 w1).mono ?_
  rintro e w2 ⟨v2, rfl, hR2, hv⟩
  have lF : ∀ b, F1 b → b < w2.heap.size := fun b hb => Nat.lt_of_lt_of_le (I.lt hA1 b hb) hv.size
  have k2 := chain k1 hv
  have hA2 := I.keep hA1 hv
  obtain ⟨p2, n2, c2, q2, m2, e2, rfl⟩ := hR2.form
  have ok0 : St9 (newSt 100000) 0 := St9.new ⟨by decide, by decide⟩
  have fu0 : Full (newSt 100000) := fun x hx => by cases hx
  have to0 : ∀ k : Nat, k < 4 → Told (newSt 100000).safe (newSt 100000).under k [] 0 := fun k _ => Told.new _ _
  obtain ⟨st0, hst0⟩ : ∃ s, newSt 100000 = s := ⟨_, rfl⟩
  rw [hst0] at hA2 hR2 ok0 fu0 to0 ⊢
  clear hv hA1 k1 hst0
  obtain ⟨R, hRd⟩ : ∃ R, w2.heap.size = R := ⟨_, rfl⟩
  have inv0 : CrInv I w (((w2.alloc (.cells #[.int .i64 st0.room, .int .i64 st0.fails, .int .i64 st0.wait, .slice p2 n2 c2, .slice q2 m2 e2] 39)).alloc (.cells #[.int .i64 0, .int .i64 0, .int .i64 0, .int .i64 0] 47)).alloc (.cells #[.slice none 0 0, .slice none 0 0, .slice none 0 0, .slice none 0 0] 48)) R (R + 1) (R + 1 + 1) pa 0 st0 F1 (.slice p2 n2 c2) (.slice q2 m2 e2) (fun _ => 0) (fun _ => .slice none 0 0) (fun _ => []) := by
    have kv : Below w2.heap.size w2 (((w2.alloc (.cells #[.int .i64 st0.room, .int .i64 st0.fails, .int .i64 st0.wait, .slice p2 n2 c2, .slice q2 m2 e2] 39)).alloc (.cells #[.int .i64 0, .int .i64 0, .int .i64 0, .int .i64 0] 47)).alloc (.cells #[.slice none 0 0, .slice none 0 0, .slice none 0 0, .slice none 0 0] 48)) := al (al (al (Below.refl _ _) _) _) _
    refine ⟨chain k2 kv, I.keep hA2 kv, hF1, ?_, hR2.keep kv, fun h => ?_, ok0, fu0, ?_, fun h => ?_, ?_, fun h => ?_, Bods.start _ _ _ _, to0, fun k _ => Nat.le_refl _, fun k _ => Int.le_refl _⟩
    · exact ((RowAt.make w2 _ _ hRd).alloc _).alloc _
    · have := lF _ h; omega
    · exact (RowAt.make _ _ _ (by rw [← hRd]; simp)).alloc _
    · have := lF _ h; omega
    · exact RowAt.make _ _ _ (by rw [← hRd]; simp)
    · have := lF _ h; omega
  have HRd := Lib.hid hRd
  have sz : w.heap.size ≤ R := by rw [← hRd]; exact k2.size
  have INV0 := Lib.hid inv0
  clear inv0 hRd hA2 hR2 ok0 fu0 to0 lF k2 hF1
  go_wp2_with fail
  rw [HRd.out]
  have inv0 := INV0.out
  generalize (((w2.alloc (.cells #[.int .i64 st0.room, .int .i64 st0.fails, .int .i64 st0.wait, .slice p2 n2 c2, .slice q2 m2 e2] 39)).alloc (.cells #[.int .i64 0, .int .i64 0, .int .i64 0, .int .i64 0] 47)).alloc (.cells #[.slice none 0 0, .slice none 0 0, .slice none 0 0, .slice none 0 0] 48)) = w3 at inv0 ⊢
  clear INV0
  go_loopw [7] (fun i wr => ∃ (j : Nat) (st : St) (F : Foot) (p1 : Option Addr) (n1 c1 : Nat) (q1 : Option Addr) (m1 e1 : Nat) (ts : Nat → Int) (vs : Nat → Value) (Ls : Nat → List (List Int)), j ≤ N ∧ j ≤ 40 ∧ i = .int .i64 j ∧ CrInv I w wr R (R + 1) (R + 1 + 1) pa j st F (.slice p1 n1 c1) (.slice q1 m1 e1) ts vs Ls) (fun i _ => N - (intOf i).toNat)
  case atStart => exact ⟨0, st0, F1, p2, n2, c2, q2, m2, e2, _, _, _, by omega, by omega, rfl, inv0⟩
  case round =>
    clear inv0
    obtain ⟨j, st, F, p1, n1, c1, q1, m1, e1, ts, vs, Ls, hj, hj40, rfl, inv⟩ := hrel
    by_cases hlt : j < N ∧ j < 40
    · obtain ⟨hlt, h40⟩ := hlt
      obtain ⟨g, off, rfl, hc, hg, hx⟩ := HF.out (by rw [HN.out]; omega)
      rw [HN.out] at hc
      have hjl : j < l.length := by rw [HN.out]; exact hlt
      have hxx := hx j hjl
      obtain ⟨o1, o2, o3, ox, o4, o5, o6⟩ := OK.out j hjl
      obtain ⟨⟨kind, key, num, bx, vb, B⟩, hxe⟩ : ∃ x, l[j] = x := ⟨_, rfl⟩
      rw [hxe] at hxx o1 o2 o3 ox o4 o5 o6
      simp only [] at o1 o2 o3 ox o4 o5 o6
      obtain ⟨x0, x1, x2, x3, x4⟩ := hxx
      simp only [] at x0 x1 x2 x3 x4
      obtain ⟨pb, cb, rfl⟩ := o4.shape
      have kw := inv.kw
      have y0 := keepc kw hg x0
      have y1 := keepc kw hg x1
      have y2 := keepc kw hg x2
      have y3 := keepc kw hg x3
      have y4 := keepc kw hg x4
      have zg : g < wr.heap.size := Nat.lt_of_lt_of_le hg kw.size
      have bj : (j : Int) < N := by omega
      have bj4 : (j : Int) < 40 := by omega
      have INV := Lib.hid inv
      have INVK := Lib.hid kw.size
      have RLT := Lib.hid inv.rR.lt
      have O4 := Lib.hid o4
      have O5 := Lib.hid o5
      have O6 := Lib.hid o6
      obtain ⟨L, hL⟩ : ∃ x, B.length = x := ⟨_, rfl⟩
      have HL := Lib.hid hL
      rw [hL] at y4
      clear inv hx hxe o4 o5 o6 hL x0 x1 x2 x3 x4 kw
      go_upto_if 42 with (fail)
      have rX : RowAt (wr.alloc (.cells #[.int .i64 kind, .int .i64 key, .int .i64 num, .int .u8 bx, .slice pb L cb] 44)) wr.heap.size #[.int .i64 kind, .int .i64 key, .int .i64 num, .int .u8 bx, .slice pb L cb] 44 := RowAt.new wr _ _
      have kX : Below wr.heap.size wr (wr.alloc (.cells #[.int .i64 kind, .int .i64 key, .int .i64 num, .int .u8 bx, .slice pb L cb] 44)) := al (Below.refl _ _) _
      clear y0 y1 y2 y3 y4 zg
      go_cut [8] from 26 to 148 (fun s wx => s = .pointer (some ⟨wr.heap.size, 0, none⟩) ∧ ∃ kd : Int, kd ≠ 4 ∧ i64 kd ∧ RowAt wx wr.heap.size #[.int .i64 kd, .int .i64 key, .int .i64 num, .int .u8 bx, .slice pb L cb] 44 ∧ Below wr.heap.size wr wx)
      case first =>
        have cX := rX.cell
        have fX := rX.frozen
        have zX := rX.lt
        by_cases hk4 : kind = 4
        · subst hk4
          go_wp2_with fail
          go_meet
          case rel => exact ⟨rfl, 5, by decide, ⟨by decide, by decide⟩, RowAt.new wr _ _, al (Below.refl _ _) _⟩
        · have hkb : (kind == 4) = false := by simp [hk4]
          go_wp2_with fail
          go_meet
          case rel => exact ⟨rfl, kind, hk4, o1, rX, kX⟩
      case rest =>
      clear rX kX
      obtain ⟨rfl, kd, hkd, okd, rX, kX⟩ := hcut
      have inv := INV.out.keep kX
      have nX : ¬ F wr.heap.size := fun h => by have := I.lt INV.out.hA _ h; omega
      have hb4 : BytsAt w (.slice pb L cb) B := HL.out ▸ O4.out
      have akey := fun u => r_around key 4 o2.1 o2.2 (by omega) (by omega) u
      obtain ⟨hk0, hk1⟩ := around_bd key 4 (by omega)
      obtain ⟨K, hK⟩ : ∃ K : Nat, aroundF key 4 = K := ⟨(aroundF key 4).toNat, by omega⟩
      rw [hK] at akey hk0 hk1
      have hK4 : K < 4 := by omega
      have AK := Lib.hid akey
      have HK := Lib.hid hK
      have iK : i64 (K : Int) := by constructor <;> omega
      have DOES := Lib.hid (fun u (hu : Below w.heap.size w u) (ha : I.At u F (.pointer (some ⟨pa, 0, none⟩)) st) (hr : RefAt F u (.agg #[.int .i64 st.room, .int .i64 st.fails, .int .i64 st.wait, .slice p1 n1 c1, .slice q1 m1 e1]) st) => l9_does I w u F _ _ st kd key num bx _ B j hu ha hr inv.h9 (by omega) okd o2 o3 ox hb4 O5.out O6.out)
      have LOAD := Lib.hid (fun (F : Foot) (d : St) (i : Nat) u (hu : I.At u F (.pointer (some ⟨pa, 0, none⟩)) d) (h9 : St9 d i) (hi : i ≤ 300) => I.load0 u F _ d K i hK4 hu h9 hi)
      have INVT := Lib.hid inv.told
      have SRT0 := Lib.hid inv.h9.ok.srt
      have NX := Lib.hid (show ∀ (k : Nat), k < 4 → aroundF key 4 = (k : Int) → kd = 0 → (of9 st k).2.1 < (of9 (does9 st kd key num bx B) k).2.1 → (of9 (does9 st kd key num bx B) k).2.1 = (of9 st k).2.1 + 1 from fun k hk hq h0 => by
        subst h0
        have := does_next (key := key) (hq ▸ inv.told k hk) inv.h9.ok.srt num bx B
        rw [hq] at this
        exact this)
      have TD := Lib.hid (fun k (hk : k < 4) => told_does (inv.told k hk) inv.h9.ok.srt kd key num bx hkd B)
      have FD := Lib.hid (full_does inv.full kd key num bx hkd B)
      have SD := Lib.hid (inv.h9.does kd key num bx O5.out ox)
      obtain ⟨D2, hD2⟩ : ∃ D2, does9 st kd key num bx B = D2 := ⟨_, rfl⟩
      rw [hD2] at DOES TD FD SD NX
      obtain ⟨was, hwas⟩ : ∃ n : Int, (of9 st K).2.1 = n := ⟨_, rfl⟩
      have HW := Lib.hid hwas
      have L1 := LOAD.out F st j wc inv.hA inv.h9 (by omega)
      rw [hwas] at L1
      obtain ⟨bw, hbw⟩ : ∃ b, decide (0 < was) = b := ⟨_, rfl⟩
      rw [hbw] at L1
      clear hbw
      have L1 := Lib.hid L1
      have rR := inv.rR
      have HB4 := Lib.hid hb4
      have HLM := Lib.hid O6.out
      clear akey hK hD2 hwas INV hb4
      have cX := rX.cell
      have fX := rX.frozen
      have zX := rX.lt
      have cR := rR.cell
      have fR := rR.frozen
      have zR := rR.lt
      go_wp2_with fail
      refine (AK.out _).mono ?_
      rintro e w4' ⟨rfl, rfl⟩
      go_wp2_with fail
      refine L1.out.mono ?_
      rintro e w4 ⟨v4, rfl, hn4, hv4⟩
      obtain ⟨p4, c4, rfl⟩ := hn4.1.shape
      have inv4 := inv.keep hv4
      have rX4 := rX.keep hv4
      have rR4 := inv4.rR
      clear cX fX zX cR fR zR rX rR inv kX hn4
      have cX := rX4.cell
      have fX := rX4.frozen
      have zX := rX4.lt
      have cR := rR4.cell
      have fR := rR4.frozen
      have zR := rR4.lt
      go_wp2_with fail
      refine (DOES.out _ inv4.kw inv4.hA inv4.hR).mono ?_
      rintro e w5 ⟨v5, F2, rfl, hA5, hR5, st5⟩
      obtain ⟨p3, n3, c3, q3, m3, e3, rfl⟩ := hR5.form
      have kw5 : Below w.heap.size w w5 := inv4.kw.trans (st5.below inv4.low inv4.kw.size)
      have low5 := st5.low inv4.low inv4.kw.size
      obtain ⟨rX5, nX5⟩ := st5.out rX4 nX
      obtain ⟨rR5, nR5⟩ := st5.out inv4.rR inv4.nR
      obtain ⟨rT5, nT5⟩ := st5.out inv4.rT inv4.nT
      obtain ⟨rY5, nY5⟩ := st5.out inv4.rY inv4.nY
      have bo5 := inv4.bods.step st5
      have len5 := inv4.len
      have nn5 := inv4.nn
      have szR : w.heap.size ≤ R := sz
      have szX : w.heap.size ≤ wr.heap.size := by have := INVK.out; exact this
      clear cX fX zX cR fR zR rX4 rR4 inv4 st5 nX hv4
      have cX := rX5.cell
      have fX := rX5.frozen
      have zX := rX5.lt
      have cR := rR5.cell
      have fR := rR5.frozen
      have zR := rR5.lt
      go_wp2_with fail
      clear cX fX zX cR fR zR
      have k6 := below5 kw5 szR (.int .i64 D2.room) (.int .i64 D2.fails) (.int .i64 D2.wait) (.slice p3 n3 c3) (.slice q3 m3 e3)
      have hA6 := I.put5 hA5 rR5 (.inr (.inl rfl)) (.int .i64 D2.room) (.int .i64 D2.fails) (.int .i64 D2.wait) (.slice p3 n3 c3) (.slice q3 m3 e3)
      have hR6 := hR5.put5 rR5 (.int .i64 D2.room) (.int .i64 D2.fails) (.int .i64 D2.wait) (.slice p3 n3 c3) (.slice q3 m3 e3)
      have rR6 := row5 rR5 (.int .i64 D2.room) (.int .i64 D2.fails) (.int .i64 D2.wait) (.slice p3 n3 c3) (.slice q3 m3 e3)
      have rX6 := row5_other rX5 (show wr.heap.size ≠ R by have := RLT.out; omega) (.int .i64 D2.room) (.int .i64 D2.fails) (.int .i64 D2.wait) (.slice p3 n3 c3) (.slice q3 m3 e3)
      have rT6 := row5_other rT5 (show R + 1 ≠ R by omega) (.int .i64 D2.room) (.int .i64 D2.fails) (.int .i64 D2.wait) (.slice p3 n3 c3) (.slice q3 m3 e3)
      have rY6 := row5_other rY5 (show R + 1 + 1 ≠ R by omega) (.int .i64 D2.room) (.int .i64 D2.fails) (.int .i64 D2.wait) (.slice p3 n3 c3) (.slice q3 m3 e3)
      have bo6 := bo5.put5 rR5 (by decide) (.int .i64 D2.room) (.int .i64 D2.fails) (.int .i64 D2.wait) (.slice p3 n3 c3) (.slice q3 m3 e3)
      clear rR5 rX5 rT5 rY5 bo5 kw5 hA5 hR5
      simp only [lay5] at hA6 hR6 rR6 rX6 rT6 rY6 bo6 k6
      generalize (((((w5.setCell ⟨R, 0, none⟩ (.int .i64 D2.room)).setCell ⟨R, 1, none⟩ (.int .i64 D2.fails)).setCell ⟨R, 2, none⟩ (.int .i64 D2.wait)).setCell ⟨R, 3, none⟩ (.slice p3 n3 c3)).setCell ⟨R, 4, none⟩ (.slice q3 m3 e3)) = w6 at *
      obtain ⟨w7, hw7⟩ : ∃ u, w6.alloc (.cells #[.int .i64 D2.room, .int .i64 D2.fails, .int .i64 D2.wait, .slice p3 n3 c3, .slice q3 m3 e3] 39) = u := ⟨_, rfl⟩
      have kv : Below w6.heap.size w6 w7 := by rw [← hw7]; exact al (Below.refl _ _) _
      rw [hw7]
      clear hw7
      obtain ⟨now, hnow⟩ : ∃ n : Int, (of9 D2 K).2.1 = n := ⟨_, rfl⟩
      have HNW := Lib.hid hnow
      have L2 := LOAD.out F2 D2 (j + 1) w7 (I.keep hA6 kv) SD.out (by omega)
      rw [hnow] at L2
      obtain ⟨bn, hbn⟩ : ∃ b, decide (0 < now) = b := ⟨_, rfl⟩
      rw [hbn] at L2
      clear hbn
      clear hnow
      refine L2.mono ?_
      rintro e w8 ⟨v8, rfl, hn8, hv8⟩
      obtain ⟨p8, c8, rfl⟩ := hn8.1.shape
      have kv8 := chain kv hv8
      have k8 := chain k6 kv8
      have hA8 := I.keep hA6 kv8
      have hR8 := hR6.keep kv8
      have rR8 := rR6.keep kv8
      have rX8 := rX6.keep kv8
      have rT8 := rT6.keep kv8
      have rY8 := rY6.keep kv8
      have bo8 := bo6.keep kv8
      clear L2 hn8 kv hv8 kv8 k6 hA6 hR6 rR6 rX6 rT6 rY6 bo6
      have cX := rX8.cell
      have fX := rX8.frozen
      have zX := rX8.lt
      go_upto_region 20 with (fail)
      go_cut [8, 78] from 26 to 148 (fun s c wx => s = .pointer (some ⟨wr.heap.size, 0, none⟩) ∧ c = .bool (decide (kd = 0 ∧ was < now)) ∧ wx = w8)
      case first =>
        by_cases h0 : kd = 0
        · have b0 : (kd == 0) = true := by simp [h0]
          by_cases h1 : was < now
          · have b1 : decide (was < now) = true := by simp [h1]
            have b2 : decide (now > was) = true := b1
            go_wp2_with fail
            go_meet
            case rel => exact ⟨rfl, by rw [decide_eq_true (show kd = 0 ∧ was < now from ⟨h0, h1⟩)], rfl⟩
          · have b1 : decide (was < now) = false := by simp [h1]
            have b2 : decide (now > was) = false := b1
            go_wp2_with fail
            go_meet
            case rel => exact ⟨rfl, by rw [decide_eq_false (show ¬ (kd = 0 ∧ was < now) from fun h => absurd h.2 (by omega))], rfl⟩
        · have b0 : (kd == 0) = false := by simp [h0]
          go_wp2_with fail
          go_meet
          case rel => exact ⟨rfl, by rw [decide_eq_false (show ¬ (kd = 0 ∧ was < now) from fun h => absurd h.1 h0)], rfl⟩
      case rest =>
      obtain ⟨rfl, rfl, rfl⟩ := hcut
      go_upto_if 78 with (fail)
      go_cut [8] from 26 to 148 (fun s wx => s = .pointer (some ⟨wr.heap.size, 0, none⟩) ∧ ∃ (vs : Nat → Value) (Ls : Nat → List (List Int)), CrInv I w wx R (R + 1) (R + 1 + 1) pa (j + 1) D2 F2 (.slice p3 n3 c3) (.slice q3 m3 e3) ts vs Ls)
      case first =>
        by_cases hgt : kd = 0 ∧ was < now
        · obtain ⟨h0, h1⟩ := hgt
          subst h0
          have b0 : decide ((0 : Int) = 0 ∧ was < now) = true := by simp [h1]
          rw [b0]
          have tl := INVT.out K hK4
          have hsn := SRT0.out
          have hnx : now = was + 1 := by
            have h := NX.out K hK4 HK.out rfl
            rw [HW.out, HNW.out] at h
            exact h h1
          obtain ⟨t1, t2, t3, _⟩ := tl.now hsn
          rw [HW.out] at t1 t2 t3
          obtain ⟨n, rfl⟩ : ∃ n : Nat, was = n := ⟨was.toNat, by omega⟩
          subst hnx
          have hnl : n ≤ (Ls K).length := by omega
          obtain ⟨xs, own8, hx8⟩ := bo8.own K hK4
          obtain ⟨pv, cv, hvk⟩ := bo8.form hK4
          have hcut := fun u => bods_cut (by rw [hvk] at own8; exact own8) hnl u
          have hlenK := len5 K hK4
          have fw := fun u (hu : Below wc.heap.size wc u) => r6_fewS pb cb B 20 u (by rw [HL.out]; exact HB4.out.keep (chain k8 hu)) HLM.out (by omega)
          rw [HL.out] at fw
          obtain ⟨L20, hL20⟩ : ∃ x, (B.take 20).length = x := ⟨_, rfl⟩
          rw [hL20] at fw
          have FW := Lib.hid fw
          have HL20 := Lib.hid hL20
          obtain ⟨NK, hNK⟩ : ∃ x, (Ls K).length = x := ⟨_, rfl⟩
          have HNK := Lib.hid hNK
          have HVK := Lib.hid hvk
          rw [hNK] at hvk hnl hlenK hcut
          have w1n : IntKind.i64.wrap ((n : Int) + 1 - 1) = (n : Int) := by rw [show (n : Int) + 1 - 1 = (n : Int) by omega]; exact IntWalk.i64_in _ (by omega)
          have mn : min (NK : Int) (n : Int) = n := by omega
          have wn : IntKind.i64.wrap (n : Int) = (n : Int) := IntWalk.i64_in _ (by omega)
          have hcapK : NK ≤ cv := by
            have h := own8
            rw [HVK.out] at h
            rcases h.2 with ⟨h1, h2⟩ | ⟨g', cap', cur, e, _, _, h3, _⟩
            · have := HNK.out; omega
            · simp only [Value.slice.injEq] at e
              obtain ⟨_, _, rfl⟩ := e
              have := HNK.out; omega
          have hcn : (n : Int) ≤ cv := by omega
          have K8 := Lib.hid k8
          have A8 := Lib.hid hA8
          have HR8 := Lib.hid hR8
          have RR8 := Lib.hid rR8
          have RT8 := Lib.hid rT8
          have BO8 := Lib.hid bo8
          have OWN8 := Lib.hid own8
          have HX8 := Lib.hid hx8
          have LN5 := Lib.hid len5
          have NN5 := Lib.hid nn5
          have TD2 := Lib.hid (fun k hk => TD.out k hk)
          clear tl hsn t1 t2 t3 fw hL20 hNK k8 hA8 hR8 rR8 rT8 bo8 own8 hx8 len5 nn5 b0 cX fX zX
          obtain ⟨i9, hi9, hz9, hs9, hby9⟩ := bytss_info
          go_upto_region 21 with (fail)
          refine region_planS (fun x => RowAt x (R + 1 + 1) #[vs 0, vs 1, vs 2, vs 3] 48 ∧ RowAt x wr.heap.size #[.int .i64 0, .int .i64 key, .int .i64 num, .int .u8 bx, .slice pb L cb] 44) 18 (.calm 0 (.calm 1 (.calm 2 (.calm 3 (.calm 4 (.calm 5 (.calm 6 (.calm 7 (.calm 8 (.calm 9 (.calm 10 (.calm 11 (.calm 12 (.calm 13 (.one 14 (.one 15 (.one 16 (.calm 17 (.one 18 (.done)))))))))))))))))))) (by kernel_rfl) (by kernel_rfl) (by kernel_rfl) rfl (by kernel_rfl) (fun c a d v w h => by cases d <;> exact h) (by exact ⟨rY8.keep ((Below.refl _ _).drew), rX8.keep ((Below.refl _ _).drew)⟩) ?_
          intro u1 hu1 hsz1 hS1
          repeat (first | (refine' PlanW.skip (by rfl) (by rfl) ?_; simp only [Act.put, List.getElem_toArray, List.getElem_cons_zero, List.getElem_cons_succ, List.setIfInBounds_toArray, List.set_cons_zero, List.set_cons_succ]) | (refine' PlanW.val (by rfl) (by rfl) (fun wr2 hr2 => ?_) ?_; rotate_left 1; (focus (have hrY := (hr2.1.cell K).trans (four_at vs K hK4); have hrX := hr2.2.cell; have hzY := hr2.1.lt; have hzX := hr2.2.lt; rw [hvk] at hrY; (go_simp <;> with_reducible rfl); done)); simp only [Act.put, List.getElem_toArray, List.getElem_cons_zero, List.getElem_cons_succ, List.setIfInBounds_toArray, List.set_cons_zero, List.set_cons_succ]))
          refine PlanW.one (by rfl) ?_
          go_wp2_with fail
          refine (FW.out _ hu1).mono ?_
          rintro e u2 ⟨rfl, hu2⟩
          have q2 := chain hu1 hu2
          have S2 := And.intro (hS1.1.keep hu2) (hS1.2.keep hu2)
          clear hS1 hu1 hu2
          go_wp2_with fail
          refine ⟨.inr S2, PlanW.one (by rfl) ?_⟩
          go_wp2_with fail
          obtain ⟨u3, hu3⟩ : ∃ u, u2.alloc (.cells #[.slice pb L20 cb] 22) = u := ⟨_, rfl⟩
          have kv3 : Below u2.heap.size u2 u3 := by rw [← hu3]; exact al (Below.refl _ _) _
          have rn3 : RowAt u3 u2.heap.size #[.slice pb L20 cb] 22 := by rw [← hu3]; exact RowAt.new u2 _ _
          rw [hu3]
          have q3 := chain q2 kv3
          have S3 := And.intro (S2.1.keep kv3) (S2.2.keep kv3)
          have OWN3 := own_keep OWN8.out q3
          have OWC3 := OWN3
          rw [HVK.out] at OWC3
          have OWC4 := own_cut OWC3 (n' := n) (by rw [HNK.out]; exact hnl)
          have cn3 := rn3.one
          have zn3 := rn3.lt
          have hwu : w.heap.size ≤ u3.heap.size := Nat.le_trans K8.out.size q3.size
          have N3 := Lib.hid OWN3
          have Q3 := Lib.hid q3
          clear hu3 kv3 S2 q2 OWC3 OWN3 q3 rn3
          refine ⟨.inr S3, PlanW.one (by rfl) ?_⟩
          refine app_one_fresh u3 rfl _ _ 31 rfl w.heap.size 22 i9 (.slice none 0 0) Try.underlying31 hi9 hz9 hs9 hby9 rfl (.slice pv n cv) n _ rfl OWC4 u2.heap.size (.slice pb L20 cb) rfl cn3 rfl (by omega) hwu ?_
          intro v4 u4 ho4 hg4 hf4
          obtain ⟨pv4, cv4, rfl⟩ := own_form ho4
          have S4 := And.intro (row_grown S3.1 (by decide) OWC4 hg4) (row_grown S3.2 (by decide) OWC4 hg4)
          have HO4 := Lib.hid ho4
          have HG4 := Lib.hid hg4
          have HF4 := Lib.hid hf4
          clear ho4 hg4 hf4 OWC4 S3 cn3 zn3 hcut hwu
          go_wp2_with fail
          refine ⟨.inr S4, ?_⟩
          repeat (first | (refine' PlanW.skip (by rfl) (by rfl) ?_; simp only [Act.put, List.getElem_toArray, List.getElem_cons_zero, List.getElem_cons_succ, List.setIfInBounds_toArray, List.set_cons_zero, List.set_cons_succ]) | (refine' PlanW.val (by rfl) (by rfl) (fun wr2 hr2 => ?_) ?_; rotate_left 1; (focus (have hrY := (hr2.1.cell K).trans (four_at vs K hK4); have hrX := hr2.2.cell; have hzY := hr2.1.lt; have hzX := hr2.2.lt; rw [hvk] at hrY; (go_simp <;> with_reducible rfl); done)); simp only [Act.put, List.getElem_toArray, List.getElem_cons_zero, List.getElem_cons_succ, List.setIfInBounds_toArray, List.set_cons_zero, List.set_cons_succ]))
          refine PlanW.one (by rfl) ?_
          have cY4 := (S4.1.cell K).trans (four_at vs K hK4)
          have fY4 := S4.1.frozen
          have zY4 := S4.1.lt
          clear S4
          go_wp2_with fail
          refine ⟨by first | exact .inl rfl | trivial, PlanW.done ?_⟩
          clear cY4 fY4 zY4
          have told' : ∀ k : Nat, k < 4 → Told D2.safe D2.under k (if k = K then (Ls K).take n ++ [B.take 20] else Ls k) (ts k) := fun k hk => by
            have h := TD.out k hk
            by_cases e : k = K
            · subst e
              rw [if_pos rfl]
              split at h
              · rw [HW.out, Int.toNat_natCast] at h
                exact h
              · rename_i hc
                exact absurd ⟨HK.out.symm, by first | rfl | trivial, by rw [HW.out, HNW.out]; omega⟩ hc
            · rw [if_neg e]
              split at h
              · rename_i hc
                exact absurd (show k = K by have := hc.1; rw [HK.out] at this; omega) e
              · exact h
          have ob : ∀ n', (Value.slice pv n' cv).ownBlock = (vs K).ownBlock := fun n' => by rw [HVK.out]; cases pv <;> rfl
          have h1 := HO4.out
          have h2 := HG4.out
          have h3 := HF4.out
          rw [Nat.mul_one] at h1
          rw [ob] at h2 h3
          have invN := CrInv.more (I := I) (T := R + 1) (Y := R + 1 + 1) (j := j) (chain K8.out Q3.out) (I.keep A8.out Q3.out) low5 (RR8.out.keep Q3.out) (HR8.out.keep Q3.out) nR5 SD.out FD.out (RT8.out.keep Q3.out) nT5 (rY8.keep Q3.out) nY5 (BO8.out.keep Q3.out) hK4 told' LN5.out NN5.out N3.out HX8.out (by rw [HNK.out]; exact hnl) h1 h2 h3 (by have := byts_few (w := w) (p := pb) (cap := cb) (l := B) (by rw [HL.out]; exact HB4.out) 20; rw [HL20.out] at this; exact this) (O5.out.take 20) (by omega) (by omega) (by omega)
          have INVN := Lib.hid invN
          clear invN h1 h2 h3 ob told' 
          go_wp2_with fail
          go_meet
          case rel => exact ⟨rfl, _, _, INVN.out⟩
        · have bg : decide (kd = 0 ∧ was < now) = false := decide_eq_false hgt
          have inv9 : CrInv I w wc R (R + 1) (R + 1 + 1) pa (j + 1) D2 F2 (.slice p3 n3 c3) (.slice q3 m3 e3) ts vs Ls :=
            ⟨k8, hA8, low5, rR8, hR8, nR5, SD.out, FD.out, rT8, nT5, rY8, nY5, bo8, fun k hk => by
              have h := TD.out k hk
              rwa [if_neg (fun h => hgt ⟨h.2.1, by
                obtain ⟨h1, _, h3⟩ := h
                rw [HK.out] at h1
                rw [h1, HW.out, HNW.out] at h3
                exact h3⟩)] at h, fun k hk => Nat.le_succ_of_le (len5 k hk), nn5⟩
          rw [bg]
          go_wp2_with fail
          go_meet
          case rel => exact ⟨rfl, vs, Ls, inv9⟩
      case rest =>
      clear k8 hA8 rR8 hR8 nR5 rX8 rT8 nT5 rY8 nY5 bo8 cX fX zX len5 nn5
      obtain ⟨rfl, vs', Ls', inv9⟩ := hcut
      have SRT := Lib.hid inv9.h9.ok.srt
      have LD := Lib.hid (fun (k : Nat) (hk : k < 4) u (hu : I.At u F2 (.pointer (some ⟨pa, 0, none⟩)) D2) => I.load0 u F2 _ D2 k (j + 1) hk hu SD.out (by omega))
      have INV9 := Lib.hid inv9
      clear inv9
      go_wp2_with fail
      go_loopw [18] (fun i wr' => ∃ (k : Nat) (ts' : Nat → Int), k ≤ 4 ∧ i = .int .i64 k ∧ CrInv I w wr' R (R + 1) (R + 1 + 1) pa (j + 1) D2 F2 (.slice p3 n3 c3) (.slice q3 m3 e3) ts' vs' Ls') (fun i _ => 4 - (intOf i).toNat)
      case atStart => exact ⟨0, ts, by omega, rfl, INV9.out⟩
      case round =>
        obtain ⟨k, ts', hk4, rfl, inv⟩ := hrel
        by_cases hk : k < 4
        · obtain ⟨t1, t2, t3, t4⟩ := (inv.told k hk).now SRT.out
          have lk := LD.out k hk wr inv.hA
          obtain ⟨qd, aq, hq1, hq2, hq3⟩ := I.disk inv.hA
          simp only [Value.pointer.injEq, Option.some.injEq, Addr.mk.injEq, and_true] at hq1
          obtain rfl := hq1
          obtain ⟨ver, hver⟩ : ∃ v : Int, (of9 D2 (k : Int)).2.1 = v := ⟨_, rfl⟩
          obtain ⟨body, hbody⟩ : ∃ b, (of9 D2 (k : Int)).2.2 = b := ⟨_, rfl⟩
          obtain ⟨U, hU⟩ : ∃ U : Nat, sumB D2.under = U := ⟨_, rfl⟩
          rw [hver] at t1 t2 t3 t4 lk
          rw [hbody] at t4 lk
          have HVER := Lib.hid hver
          have HU := Lib.hid hU
          have LK := Lib.hid lk
          have kb : (k : Int) < 4 := by omega
          have cT : wr.cell? ⟨R + 1, k, none⟩ = some (.int .i64 (ts' k)) := (inv.rT.cell k).trans (four_at (fun i => .int .i64 (ts' i)) k hk)
          have zT := inv.rT.lt
          have zY := inv.rY.lt
          have cY0 := (inv.rY.cell k).trans (four_at vs' k hk)
          obtain ⟨tk, htk⟩ : ∃ t, ts' k = t := ⟨_, rfl⟩
          rw [htk] at cT t1
          clear hver hbody hU lk htk
          by_cases hp : 0 < ver
          · obtain ⟨m, hm⟩ : ∃ m : Nat, ver = (m : Int) + 1 := ⟨(ver - 1).toNat, by omega⟩
            have t5 := t4 hp
            rw [show ver.toNat - 1 = m by omega] at t5
            have lk5 := inv.len k hk
            obtain ⟨g, cap, vE, hvE, hgE, hmE, hcE, hbE, obE⟩ := inv.bods.get hk t5
            obtain ⟨pE, cE, rfl⟩ := hbE.shape
            rw [hvE] at cY0
            obtain ⟨NK, hNK⟩ : ∃ x, (Ls' k).length = x := ⟨_, rfl⟩
            rw [hNK] at cY0 t2 hmE lk5
            have g0 : decide (0 < ver) = true := decide_eq_true hp
            have g0' : decide (ver > 0) = true := g0
            have g1 : decide (ver < tk) = false := decide_eq_false (by omega)
            have g2 : decide ((NK : Int) < ver) = false := decide_eq_false (by omega)
            have g2' : decide (ver > (NK : Int)) = false := g2
            have wm : IntKind.i64.wrap (ver - 1) = (m : Int) := by rw [show ver - 1 = (m : Int) by omega]; exact IntWalk.i64_in _ (by omega)
            have mb : (m : Int) < NK := by omega
            have KWR := Lib.hid inv.kw
            have HBE := Lib.hid hbE
            have OBE := Lib.hid obE
            have HNK := Lib.hid hNK
            obtain ⟨LB, hLB⟩ : ∃ x, body.length = x := ⟨_, rfl⟩
            have HLB := Lib.hid hLB
            rw [g0] at LK
            rw [hLB] at hcE
            clear t1 t2 t3 t4 t5 hp hvE hbE obE hNK hLB hm lk5
            go_wp2_with fail
            refine LK.out.mono ?_
            rintro e w10 ⟨v10, rfl, hn10, hv10⟩
            obtain ⟨p10, c10, hs10⟩ := hn10.1.shape
            rw [HLB.out] at hs10
            have cT2 := keepc hv10 zT cT
            have cY2 := keepc hv10 zY cY0
            have cE2 := keepc hv10 hgE hcE
            have zT2 := size_lt zT hv10
            have zY2 := size_lt zY hv10
            have zE2 := size_lt hgE hv10
            rw [hs10] at hn10
            subst hs10
            have hE10 : BytsAt w10 (.slice pE LB cE) body := by have h := HBE.out.keep (chain KWR.out hv10); rw [HLB.out] at h; exact h
            have sm := r6_same _ _ body body w10 hn10.1 hE10 OBE.out OBE.out
            try rw [HLB.out] at sm
            have SM := Lib.hid sm
            have HV10 := Lib.hid hv10
            clear hn10 hv10 cT zT zY cY0 hcE hgE hE10 sm
            go_wp2_with fail
            refine SM.out.mono ?_
            rintro e w11 ⟨rfl, hv11⟩
            have k11 := chain HV10.out hv11
            clear hv11 cT2 cY2 cE2 zT2 zY2 zE2 SM
            have invX := inv.keep k11
            have LFT := I.left w11 F2 pa _ D2 (j + 1) invX.hA (keepc k11 hq2 hq3) SD.out (by omega)
            rw [HU.out] at LFT
            have LFT := Lib.hid LFT
            have cq := keepc k11 hq2 hq3
            have zq := size_lt hq2 k11
            have INVX := Lib.hid invX
            clear invX inv hq2 hq3 k11
            go_wp2_with fail
            refine LFT.out.mono ?_
            rintro e w12 ⟨rfl, hv12⟩
            have invY := INVX.out.keep hv12
            clear cq zq hv12
            by_cases h0 : U = 0
            · have tlY := invY.tell hk (by rw [HU.out]; exact h0) (show w.heap.size ≤ R + 1 by omega) (by omega) (by omega)
              rw [HVER.out] at tlY
              have TL := Lib.hid tlY
              have cT := invY.rT.cell
              have fT := invY.rT.frozen
              have zT := invY.rT.lt
              have gU : ((U : Int) == 0) = true := by simp [h0]
              have gT : ∃ y, w12.cell? ⟨R + 1, k, none⟩ = some y := ⟨_, (cT k).trans (four_at (fun i => .int .i64 (ts' i)) k hk)⟩
              obtain ⟨yT, gT⟩ := gT
              clear tlY invY cT h0
              go_wp2_with fail
              go_roundw
              case rel => exact ⟨k + 1, _, by omega, by go_num, TL.out⟩
              case measure => simp [intOf]; omega
            · have gU : ((U : Int) == 0) = false := by simp; omega
              have INVY := Lib.hid invY
              clear invY h0
              go_wp2_with fail
              go_roundw
              case rel => exact ⟨k + 1, ts', by omega, by go_num, INVY.out⟩
              case measure => simp [intOf]; omega
          · obtain rfl : ver = 0 := by omega
            obtain ⟨pk, ck, hvk⟩ := inv.bods.form hk
            rw [hvk] at cY0
            obtain ⟨NK, hNK⟩ : ∃ x, (Ls' k).length = x := ⟨_, rfl⟩
            rw [hNK] at cY0 t2
            have g1 : decide ((0 : Int) < tk) = false := decide_eq_false (by omega)
            have g2 : decide ((NK : Int) < 0) = false := decide_eq_false (by omega)
            have g2' : decide ((0 : Int) > (NK : Int)) = false := g2
            clear t1 t2 t3 t4 hp hvk hNK
            go_wp2_with fail
            refine LK.out.mono ?_
            rintro e w10 ⟨v10, rfl, hn10, hv10⟩
            obtain ⟨p10, c10, rfl⟩ := hn10.1.shape
            have cT2 := keepc hv10 zT cT
            have cY2 := keepc hv10 zY cY0
            have zT2 := size_lt zT hv10
            have zY2 := size_lt zY hv10
            have HV10 := hv10
            clear hn10 hv10 cT zT zY cY0
            go_upto_region 30 with (fail)
            clear cT2 cY2 zT2 zY2
            have invX := inv.keep HV10
            have LFT := I.left w10 F2 pa _ D2 (j + 1) invX.hA (keepc HV10 hq2 hq3) SD.out (by omega)
            rw [HU.out] at LFT
            have LFT := Lib.hid LFT
            have cq := keepc HV10 hq2 hq3
            have zq := size_lt hq2 HV10
            have INVX := Lib.hid invX
            clear invX inv hq2 hq3 HV10
            go_wp2_with fail
            refine LFT.out.mono ?_
            rintro e w12 ⟨rfl, hv12⟩
            have invY := INVX.out.keep hv12
            clear cq zq hv12
            by_cases h0 : U = 0
            · have tlY := invY.tell hk (by rw [HU.out]; exact h0) (show w.heap.size ≤ R + 1 by omega) (by omega) (by omega)
              rw [HVER.out] at tlY
              have TL := Lib.hid tlY
              have cT := invY.rT.cell
              have fT := invY.rT.frozen
              have zT := invY.rT.lt
              have gU : ((U : Int) == 0) = true := by simp [h0]
              have gT : ∃ y, w12.cell? ⟨R + 1, k, none⟩ = some y := ⟨_, (cT k).trans (four_at (fun i => .int .i64 (ts' i)) k hk)⟩
              obtain ⟨yT, gT⟩ := gT
              clear tlY invY cT h0
              go_wp2_with fail
              go_roundw
              case rel => exact ⟨k + 1, _, by omega, by go_num, TL.out⟩
              case measure => simp [intOf]; omega
            · have gU : ((U : Int) == 0) = false := by simp; omega
              have INVY := Lib.hid invY
              clear invY h0
              go_wp2_with fail
              go_roundw
              case rel => exact ⟨k + 1, ts', by omega, by go_num, INVY.out⟩
              case measure => simp [intOf]; omega
        · obtain rfl : k = 4 := by omega
          go_wp2_with fail
          go_roundw
          case rel => exact ⟨j + 1, D2, F2, p3, n3, c3, q3, m3, e3, ts', vs', Ls', by omega, by omega, by go_num, inv⟩
          case measure => simp [intOf]; omega
    · have gen : (j < N ∧ ¬ j < 40) ∨ ¬ j < N := by omega
      have kw := inv.kw
      clear inv
      rcases gen with ⟨g1, g2⟩ | g1
      all_goals
        go_wp2_with fail
        refine (l9_lives I _).mono ?_
        rintro e w9 ⟨rfl, hv9⟩
        go_wp2
        go_ret
        exact ⟨rfl, chain kw hv9⟩
end Go.Proofs.Ythjekbbldejlpaa
