/- Texts behind each other. -/
import Derived.Test.YthjekbbldejlpaaZ14
import Derived.Test.YthjekbbldejlpaaZ13
import Derived.Test.YthjekbbldejlpaaZ03
/- Contracts of layer 9's reference (store): Spoil. -/
set_option linter.unusedVariables false
set_option linter.unusedSimpArgs false
namespace Go.Proofs.Ythjekbbldejlpaa
open Go.ChangeShapes Go.WideShapes Go.ChangeAt Go.RowKit
set_option maxRecDepth 10000 in
set_option maxHeartbeats 16000000 in
theorem r9_spoil (v : Value) (d : St) (key at0 x : Int) (G : Foot) (w : World) (hG : ∀ g, w.heap.size ≤ g → G g) {n m : Nat} (hd : DAtR (BlobIn G w) w v d) (ok : StOk d n m) (hn : n + 1 ≤ 40000) (hm : 2 * m ≤ 100000) (hk : i64 key) (ha : i64 at0) (hx : 0 ≤ x ∧ x ≤ 255) :
    Calls Try.prog 41 #[v, .int .i64 key, .int .i64 at0, .int .u8 x] w fun e w' => ∃ v', e = .returned (.tuple #[v', .bool (spoilSt d key at0 x).2]) ∧ DAtR (BlobIn G w') w' v' (spoilSt d key at0 x).1 ∧ Below w.heap.size w w' := by
  obtain ⟨i0, hi, hz, hsz, hby⟩ := byte_info
  obtain ⟨k0, k1⟩ := hk
  obtain ⟨ps, ns, cs, pl, nl, cl, hv⟩ := hd.form
  subst hv
  obtain ⟨okb, lnb⟩ := gb_ok ok key
  have hg := fun u (hu : Below w.heap.size w u) => rG_get _ d key (BlobIn G w) u (hd.keep hu) ok (by omega)
  change bytOk (getSt d key).1 at okb
  change (getSt d key).1.length ≤ m at lnb
  unfold spoilSt
  rw [show gb d.all key = (getSt d key).1 from rfl]
  have HD := Lib.hid hd
  by_cases hin : 0 ≤ at0 ∧ at0 < (getSt d key).1.length
  · rw [if_pos hin]
    obtain ⟨j, rfl⟩ : ∃ j : Nat, at0 = j := ⟨at0.toNat, by omega⟩
    rw [Int.toNat_natCast]
    have hj : j < (getSt d key).1.length := by omega
    obtain ⟨s1, s2, s3⟩ := spoilB_ok okb hj hx
    have okf := ok.fail 0 (by decide)
    have okp := okf.put (k := key) ⟨k0, k1⟩ s1
    have hfl := fun u (hu : Below w.heap.size w u) => rG_fail _ d 0 (by constructor <;> decide) (BlobIn G w) u (hd.keep hu)
    have hpt := fun u x2 va (R : Value → List Int → Prop) (hR : GoodR R) (h1 : DAtR R u va (failSt d 0)) (h2 : R x2 (spoilB (getSt d key).1 j x)) => rG_put va (failSt d 0) key x2 (spoilB (getSt d key).1 j x) R u h1 okf (by omega) (by omega) ⟨k0, k1⟩ h2 (by omega)
    rw [s2] at okp
    have hsp : bytVs (spoilB (getSt d key).1 j x) = (bytVs (getSt d key).1).set j (.int .u8 (bits .xor .u8 (getSt d key).1[j] x)) := by rw [s3]; simp [bytVs, List.map_set]
    obtain ⟨old, hold⟩ : ∃ o, (getSt d key).1[j] = o := ⟨_, rfl⟩
    rw [hold] at hsp
    have hcell : (bytVs (getSt d key).1)[j]? = some (.int .u8 old) := by simp [bytVs, hj, hold]
    clear s3 hold
    generalize putSt (failSt d 0) key (spoilB (getSt d key).1 j x) = PS at *
    obtain ⟨D2, P2⟩ := PS
    generalize failSt d 0 = D1 at *
    generalize spoilB (getSt d key).1 j x = nb at *
    generalize (getSt d key).1 = ob at *
    generalize (getSt d key).2 = ib at *
    dsimp only at okp hpt hin ⊢
    have hsy := fun u x2 (R : Value → List Int → Prop) (hR : GoodR R) (hx2 : DAtR R u x2 D2) => rG_sync x2 D2 R u hx2 okp (by omega)
    generalize syncSt D2 = SS at *
    obtain ⟨D3, P3⟩ := SS
    dsimp only at hsy ⊢
    obtain ⟨N, hN⟩ : ∃ N, ob.length = N := ⟨_, rfl⟩
    rw [hN] at hj s2 lnb
    have HN := Lib.hid hN
    have HG1 := Lib.hid hg
    have HFL := Lib.hid hfl
    have HPT := Lib.hid hpt
    have HSY := Lib.hid hsy
    have HSP := Lib.hid hsp
    have HC := Lib.hid hcell
    have S2 := Lib.hid s2
    have HGG := Lib.hid hG
    have g1 : decide ((j : Int) < 0) = false := by simp
    have g2 : decide ((N : Int) ≤ (j : Int)) = false := by simp; omega
    have g3 : decide ((j : Int) ≥ (N : Int)) = false := g2
    obtain ⟨nx, hnx⟩ : ∃ y, bits .xor .u8 old x = y := ⟨_, rfl⟩
    have HNX := Lib.hid hnx
    clear hd ok okb hg hfl hpt hsy hsp hcell s1 s2 okf okp hin hN k0 k1 ha hG
    go_enter Try.func41, Try.ntmps41
    go_upto_region 1 with (fail)
    obtain ⟨u0, hu⟩ : ∃ u, (w.alloc (.cells #[.int .i64 d.room, .int .i64 d.fails, .int .i64 d.wait, .slice ps ns cs, .slice pl nl cl] 39)).alloc (.cells #[.int .i64 0, .int .i64 0, .int .i64 0, .slice none 0 0, .slice none 0 0] 39) = u := ⟨_, rfl⟩
    rw [hu]
    have k00 : Below w.heap.size w u0 := by rw [← hu]; exact al (al (Below.refl _ _) _) _
    have rb0 : RowAt u0 w.heap.size #[.int .i64 d.room, .int .i64 d.fails, .int .i64 d.wait, .slice ps ns cs, .slice pl nl cl] 39 := by rw [← hu]; exact (RowAt.new w _ _).alloc _
    have rr0 : RowAt u0 (w.heap.size + 1) #[.int .i64 0, .int .i64 0, .int .i64 0, .slice none 0 0, .slice none 0 0] 39 := by rw [← hu]; exact RowAt.make _ _ _ (by simp)
    have c0 := rb0.cell
    have z0 := rb0.lt
    clear hu
    go_wp2_with fail
    (refine (HG1.out _ k00).mono ?_; rintro e w1 ⟨x1, rfl, hx1, hb1⟩)
    obtain ⟨p1, cp1, hx1s⟩ := hx1.1.shape
    have k1 := chain k00 hb1
    have hbt := hx1.1.keep k1
    replace rb0 := rb0.keep hb1
    replace rr0 := rr0.keep hb1
    rw [HN.out] at hx1s
    subst hx1s
    clear hx1 hb1 c0 z0 k00
    go_upto_region 6 with (at_builtin; refine app_bytes _ rfl _ _ 22 rfl w.heap.size 5 i0 _ Try.underlying22 hi hz hsz hby rfl _ _ _ rfl (World.ownsRow_nil _ _ _ _) ob _ _ _ rfl hbt (by omega) (by omega) (by have := k1.size; omega) ?_; intro v2 w2 ho2 hg2)
    simp only [Nat.zero_add, List.nil_append] at ho2
    have k2 : Below w.heap.size w w2 := Below.own0 k1 hg2
    replace rb0 : RowAt w2 w.heap.size _ _ := (hg2.block _ rb0.lt (fun e => by cases e)).trans rb0
    replace rr0 : RowAt w2 (w.heap.size + 1) _ _ := (hg2.block _ rr0.lt (fun e => by cases e)).trans rr0
    obtain ⟨g2, cap2, rfl⟩ := own_some ho2 (by omega)
    obtain ⟨fz, zg⟩ := own_open ho2
    have hgg : ∃ cur, w2.heap[g2]? = some (Obj.cells cur 5 (0, 0)) := by
      rcases ho2.2 with ⟨h, _⟩ | ⟨g', cap', cur, e, _, h, _⟩
      · cases h
      · simp only [Value.slice.injEq, Option.some.injEq, Addr.mk.injEq] at e
        obtain ⟨⟨rfl, _⟩, _⟩ := e
        exact ⟨cur, h⟩
    obtain ⟨cur2, hgg⟩ := hgg
    have n1 : w.heap.size ≠ g2 := by
      rintro rfl
      unfold RowAt at rb0
      rw [hgg] at rb0
      cases rb0
    have n2 : w.heap.size + 1 ≠ g2 := by
      rintro rfl
      unfold RowAt at rr0
      rw [hgg] at rr0
      cases rr0
    have d0 : w2.cell? ⟨g2, j, none⟩ = some (.int .u8 old) := own_cell ho2 j HC.out
    have hos := own_set ho2 j (by omega) (.int .u8 nx)
    have k3 : Below w.heap.size w (w2.setCell ⟨g2, j, none⟩ (.int .u8 nx)) := Below.own_set k2 ho2 j _
    have hsp := HSP.out
    rw [HNX.out] at hsp
    rw [← hsp] at hos
    have rb3 := rb0.other (p := ⟨g2, j, none⟩) n1 (.int .u8 nx)
    have rr3 := rr0.other (p := ⟨g2, j, none⟩) n2 (.int .u8 nx)
    obtain ⟨u3, hu3⟩ : ∃ U, w2.setCell ⟨g2, j, none⟩ (.int .u8 nx) = U := ⟨_, rfl⟩
    rw [hu3] at hos k3 rb3 rr3
    have HU := Lib.hid hu3
    have hblob : BlobIn G u3 (.slice (some ⟨g2, 0, none⟩) N cap2) nb := BlobIn.owned (by rw [S2.out]; exact hos) (fun g hg => by cases hg; exact HGG.out _ (ho2.lt _ rfl).1)
    have HBL := Lib.hid hblob
    clear hgg hos hsp hu3 hblob ho2 hg2 rb0 rr0 k1 k2 n1 n2 hbt
    go_upto_region 7 with (fail)
    rw [HU.out]
    clear d0 fz zg
    have c0 := rb3.cell
    have z0 := rb3.lt
    go_wp2_with fail
    refine (HFL.out _ k3).mono ?_
    rintro e w4 ⟨v4, rfl, hd4, hb4⟩
    obtain ⟨p4, n4, c4, q4, m4, e4, hv4⟩ := hd4.form
    subst hv4
    have hd4' := hd4.map (R' := BlobIn G u3) fun h => h.below k3
    have HD4 := Lib.hid hd4'
    have k4 := chain k3 hb4
    have rr4 := rr3.keep hb4
    have HB4 := Lib.hid hb4
    clear hd4 hd4' hb4 c0 z0 rb3 rr3
    go_wp2_with fail
    refine (HPT.out _ _ _ _ inferInstance HD4.out HBL.out).mono ?_
    rintro e w5 ⟨v5, rfl, hd5, hb5⟩
    obtain ⟨p5, n5, c5, q5, m5, e5, hv5⟩ := hd5.form
    subst hv5
    have k5 := chain k4 hb5
    have rr5 := rr4.keep hb5
    have HD5 := Lib.hid hd5
    have HB5 := Lib.hid (chain HB4.out hb5)
    clear hd5 hb5 rr4 k4
    go_upto_region 8 with (fail)
    obtain ⟨u6, hu6⟩ : ∃ u, w5.alloc (.cells #[.int .i64 D2.room, .int .i64 D2.fails, .int .i64 D2.wait, .slice p5 n5 c5, .slice q5 m5 e5] 39) = u := ⟨_, rfl⟩
    rw [hu6]
    have k6 : Below w.heap.size w u6 := by rw [← hu6]; exact al k5 _
    have K56 := Lib.hid (show Below w5.heap.size w5 u6 by rw [← hu6]; exact al (Below.refl _ _) _)
    have rw6 : RowAt u6 w5.heap.size #[.int .i64 D2.room, .int .i64 D2.fails, .int .i64 D2.wait, .slice p5 n5 c5, .slice q5 m5 e5] 39 := by rw [← hu6]; exact RowAt.new w5 _ _
    have rr6 := rr5.keep K56.out
    clear hu6 rr5 k5
    have c6 := rw6.cell
    have z6 := rw6.lt
    go_wp2_with fail
    (refine (HSY.out _ _ _ inferInstance (HD5.out.keep K56.out)).mono ?_; rintro e w7 ⟨x7, rfl, hd7, hb7⟩)
    obtain ⟨p7, n7, c7, q7, m7, e7, hv7⟩ := hd7.form
    subst hv7
    have k7 := chain k6 hb7
    have rr7 := rr6.keep hb7
    have HD7 := Lib.hid hd7
    have K37 := Lib.hid (chain (chain HB5.out K56.out) hb7)
    clear hd7 hb7 c6 z6 rw6 rr6 k6
    go_upto_region 9 with (fail)
    obtain ⟨u8, hu8⟩ : ∃ u, w7.alloc (.cells #[.int .i64 D3.room, .int .i64 D3.fails, .int .i64 D3.wait, .slice p7 n7 c7, .slice q7 m7 e7] 39) = u := ⟨_, rfl⟩
    rw [hu8]
    have k8 : Below w.heap.size w u8 := by rw [← hu8]; exact al k7 _
    have K78 := Lib.hid (show Below w7.heap.size w7 u8 by rw [← hu8]; exact al (Below.refl _ _) _)
    have rw8 : RowAt u8 w7.heap.size #[.int .i64 D3.room, .int .i64 D3.fails, .int .i64 D3.wait, .slice p7 n7 c7, .slice q7 m7 e7] 39 := by rw [← hu8]; exact RowAt.new w7 _ _
    have rr8 := rr7.keep K78.out
    clear hu8 rr7 k7
    have c8 := rw8.cell
    have z8 := rw8.lt
    have c1 := rr8.cell
    have z1 := rr8.lt
    have f1 := rr8.frozen
    go_wp2_with fail
    clear c1 z1 f1 c8 z8
    obtain ⟨u9, hu9⟩ : ∃ u, (((((u8.setCell ⟨w.heap.size + 1, 0, none⟩ (.int .i64 D3.room)).setCell ⟨w.heap.size + 1, 1, none⟩ (.int .i64 D3.fails)).setCell ⟨w.heap.size + 1, 2, none⟩ (.int .i64 D3.wait)).setCell ⟨w.heap.size + 1, 3, none⟩ (.slice p7 n7 c7)).setCell ⟨w.heap.size + 1, 4, none⟩ (.slice q7 m7 e7)) = u := ⟨_, rfl⟩
    rw [hu9]
    have k9 := lay_own (cs := #[]) k8 (Nat.le_succ _) rr8 _ _ _ _ _ hu9
    have hf0 := DAtR.put5 (HD7.out.keep K78.out) rr8 (.int .i64 D3.room) (.int .i64 D3.fails) (.int .i64 D3.wait) (.slice p7 n7 c7) (.slice q7 m7 e7)
    have e9 : lay5 u8 (w.heap.size + 1) (.int .i64 D3.room) (.int .i64 D3.fails) (.int .i64 D3.wait) (.slice p7 n7 c7) (.slice q7 m7 e7) = u9 := hu9
    rw [e9] at hf0
    have K38 := chain K37.out K78.out
    have hfin : DAtR (BlobIn G u9) u9 (dV D3.room D3.fails D3.wait (.slice p7 n7 c7) (.slice q7 m7 e7)) D3 := hf0.map fun h => h.turn (fun g cur f _ ht => (by
      have hg := (Array.getElem?_eq_some_iff.1 ht).1
      have e1 := K38.block g hg
      rw [← e9, lay5_other _ _ _ _ _ _ _ (fun e => by
        subst e
        have h8 := rr8
        unfold RowAt at h8
        rw [e1, ht] at h8
        cases h8)]
      exact e1)) (fun g _ _ h _ => h)
    have cr := k9.2.cell
    exact bodyPost_ret (v := .tuple #[dV D3.room D3.fails D3.wait (.slice p7 n7 c7) (.slice q7 m7 e7), .bool true]) (by simp [results, Try.results41, go_sem, cr]) rfl ⟨_, rfl, hfin, k9.1⟩
  · rw [if_neg hin]
    have fin : ∀ u (hu : Below w.heap.size w u), DAtR (BlobIn G u) u (dV d.room d.fails d.wait (.slice ps ns cs) (.slice pl nl cl)) d := fun u hu => (HD.out.keep hu).map fun h => h.below hu
    have FIN := Lib.hid fin
    have HG1 := Lib.hid hg
    obtain ⟨N, hN⟩ : ∃ N, (getSt d key).1.length = N := ⟨_, rfl⟩
    rw [hN] at hin lnb
    have HN := Lib.hid hN
    clear fin hg hd ok okb hN k0 k1
    by_cases q1 : at0 < 0
    · have g1 : decide (at0 < 0) = true := by simpa using q1
      clear q1 hin ha
      go_enter Try.func41, Try.ntmps41
      go_upto_region 1 with (fail)
      obtain ⟨u0, hu⟩ : ∃ u, (w.alloc (.cells #[.int .i64 d.room, .int .i64 d.fails, .int .i64 d.wait, .slice ps ns cs, .slice pl nl cl] 39)).alloc (.cells #[.int .i64 0, .int .i64 0, .int .i64 0, .slice none 0 0, .slice none 0 0] 39) = u := ⟨_, rfl⟩
      rw [hu]
      have k00 : Below w.heap.size w u0 := by rw [← hu]; exact al (al (Below.refl _ _) _) _
      have rb0 : RowAt u0 w.heap.size #[.int .i64 d.room, .int .i64 d.fails, .int .i64 d.wait, .slice ps ns cs, .slice pl nl cl] 39 := by rw [← hu]; exact (RowAt.new w _ _).alloc _
      have rr0 : RowAt u0 (w.heap.size + 1) #[.int .i64 0, .int .i64 0, .int .i64 0, .slice none 0 0, .slice none 0 0] 39 := by rw [← hu]; exact RowAt.make _ _ _ (by simp)
      have c0 := rb0.cell
      have z0 := rb0.lt
      clear hu
      go_wp2_with fail
      (refine (HG1.out _ k00).mono ?_; rintro e w1 ⟨x1, rfl, hx1, hb1⟩)
      obtain ⟨p1, cp1, hx1s⟩ := hx1.1.shape
      have k1 := chain k00 hb1
      replace rb0 := rb0.keep hb1
      replace rr0 := rr0.keep hb1
      rw [HN.out] at hx1s
      subst hx1s
      clear hx1 hb1 c0 z0 k00
      have c0 := rb0.cell
      have z0 := rb0.lt
      have c1 := rr0.cell
      have z1 := rr0.lt
      have f1 := rr0.frozen
      go_wp2_with fail
      clear c1 z1 f1 c0 z0
      obtain ⟨u9, hu9⟩ : ∃ u, (((((w1.setCell ⟨w.heap.size + 1, 0, none⟩ (.int .i64 d.room)).setCell ⟨w.heap.size + 1, 1, none⟩ (.int .i64 d.fails)).setCell ⟨w.heap.size + 1, 2, none⟩ (.int .i64 d.wait)).setCell ⟨w.heap.size + 1, 3, none⟩ (.slice ps ns cs)).setCell ⟨w.heap.size + 1, 4, none⟩ (.slice pl nl cl)) = u := ⟨_, rfl⟩
      rw [hu9]
      have k9 := lay_own (cs := #[]) k1 (Nat.le_succ _) rr0 _ _ _ _ _ hu9
      have cr := k9.2.cell
      exact bodyPost_ret (v := .tuple #[dV d.room d.fails d.wait (.slice ps ns cs) (.slice pl nl cl), .bool false]) (by simp [results, Try.results41, go_sem, cr]) rfl ⟨_, rfl, FIN.out _ k9.1, k9.1⟩
    · have g1 : decide (at0 < 0) = false := by simpa using q1
      have g2 : decide ((N : Int) ≤ at0) = true := by simp; omega
      have g3 : decide (at0 ≥ (N : Int)) = true := g2
      clear q1 hin ha
      go_enter Try.func41, Try.ntmps41
      go_upto_region 1 with (fail)
      obtain ⟨u0, hu⟩ : ∃ u, (w.alloc (.cells #[.int .i64 d.room, .int .i64 d.fails, .int .i64 d.wait, .slice ps ns cs, .slice pl nl cl] 39)).alloc (.cells #[.int .i64 0, .int .i64 0, .int .i64 0, .slice none 0 0, .slice none 0 0] 39) = u := ⟨_, rfl⟩
      rw [hu]
      have k00 : Below w.heap.size w u0 := by rw [← hu]; exact al (al (Below.refl _ _) _) _
      have rb0 : RowAt u0 w.heap.size #[.int .i64 d.room, .int .i64 d.fails, .int .i64 d.wait, .slice ps ns cs, .slice pl nl cl] 39 := by rw [← hu]; exact (RowAt.new w _ _).alloc _
      have rr0 : RowAt u0 (w.heap.size + 1) #[.int .i64 0, .int .i64 0, .int .i64 0, .slice none 0 0, .slice none 0 0] 39 := by rw [← hu]; exact RowAt.make _ _ _ (by simp)
      have c0 := rb0.cell
      have z0 := rb0.lt
      clear hu
      go_wp2_with fail
      (refine (HG1.out _ k00).mono ?_; rintro e w1 ⟨x1, rfl, hx1, hb1⟩)
      obtain ⟨p1, cp1, hx1s⟩ := hx1.1.shape
      have k1 := chain k00 hb1
      replace rb0 := rb0.keep hb1
      replace rr0 := rr0.keep hb1
      rw [HN.out] at hx1s
      subst hx1s
      clear hx1 hb1 c0 z0 k00
      have c0 := rb0.cell
      have z0 := rb0.lt
      have c1 := rr0.cell
      have z1 := rr0.lt
      have f1 := rr0.frozen
      go_wp2_with fail
      clear c1 z1 f1 c0 z0
      obtain ⟨u9, hu9⟩ : ∃ u, (((((w1.setCell ⟨w.heap.size + 1, 0, none⟩ (.int .i64 d.room)).setCell ⟨w.heap.size + 1, 1, none⟩ (.int .i64 d.fails)).setCell ⟨w.heap.size + 1, 2, none⟩ (.int .i64 d.wait)).setCell ⟨w.heap.size + 1, 3, none⟩ (.slice ps ns cs)).setCell ⟨w.heap.size + 1, 4, none⟩ (.slice pl nl cl)) = u := ⟨_, rfl⟩
      rw [hu9]
      have k9 := lay_own (cs := #[]) k1 (Nat.le_succ _) rr0 _ _ _ _ _ hu9
      have cr := k9.2.cell
      exact bodyPost_ret (v := .tuple #[dV d.room d.fails d.wait (.slice ps ns cs) (.slice pl nl cl), .bool false]) (by simp [results, Try.results41, go_sem, cr]) rfl ⟨_, rfl, FIN.out _ k9.1, k9.1⟩
end Go.Proofs.Ythjekbbldejlpaa
/- Contracts of layer 9's reference (store): Ids. -/
set_option linter.unusedVariables false
set_option linter.unusedSimpArgs false
namespace Go.Proofs.Ythjekbbldejlpaa
open Go.ChangeShapes Go.WideShapes Go.ChangeAt Go.RowKit
/-- The ids that have a record, one slot behind the other. -/
def idStep (d : St) (out : List Int) (q : Int) : List Int := if 0 < (of9 d (q / 2)).2.1 ∧ (out = [] ∨ out.getLast? ≠ some (q / 2)) then out ++ [q / 2] else out
def idsL (d : St) (l : List Int) : List Int := l.foldl (idStep d) []
def idsF (d : St) : List Int := idsL d (d.all.map (·.1))
theorem idsL_snoc (d : St) (l : List Int) (q : Int) : idsL d (l ++ [q]) = idStep d (idsL d l) q := by simp [idsL]
theorem idsL_len (d : St) (l : List Int) : ∀ k, k ≤ l.length → (idsL d (l.take k)).length ≤ k
  | 0, _ => by simp [idsL]
  | k + 1, h => by
    have ih := idsL_len d l k (by omega)
    rw [take_succ_get l k (by omega), idsL_snoc]
    unfold idStep
    split
    · simp; omega
    · omega
theorem int9_info : ∃ i, Try.prog.info? 3 = some i ∧ i.zero = some (.int .i64 0) ∧ i.size = 1 ∧ i.bytes = 8 := by
  obtain ⟨i, hi⟩ : ∃ i, Try.prog.info? 3 = some i := Option.isSome_iff_exists.1 (by kernel_rfl)
  have h : (Try.prog.info? 3).map (fun i => (i.zero, i.size, i.bytes)) = some (some (.int .i64 0), 1, 8) := by kernel_rfl
  rw [hi] at h
  simp at h
  exact ⟨i, hi, h.1, h.2.1, h.2.2⟩
theorem rel_keys9 {R : Value → List Int → Prop} {rs : List Raw} {bs : Blobs} (h : RelG R rs bs) : rs.map (·.1) = bs.map (·.1) := by
  induction h with
  | nil => rfl
  | cons hx _ ih => simp only [List.map_cons, hx.1, ih]
set_option maxRecDepth 10000 in
set_option maxHeartbeats 16000000 in
theorem r9_ids (v : Value) (d : St) (R : Value → List Int → Prop) [GoodR R] (w : World) (hR : ∀ {x : Value} {B : List Int}, R x B → BytsAt w x B) {n m : Nat} (hd : DAtR R w v d) (ok : StOk d n m) (hn : n ≤ 40000) (hm : m ≤ 100000) (hq : ∀ x ∈ d.all, 0 ≤ x.1 ∧ x.1 ≤ 2199023255553) :
    Calls Try.prog 45 #[v] w fun e w' => ∃ vb, e = .returned vb ∧ IntsAt w' vb (idsF d) ∧ Below w.heap.size w w' := by
  obtain ⟨i0, hi, hz, hsz, hby⟩ := int9_info
  obtain ⟨ps, ns, cs, pl, nl, cl, hv⟩ := hd.form
  subst hv
  have hnow := fun u (hu : Below w.heap.size w u) => rG_now _ d R u (hd.keep hu) ok hn
  have hof := fun u (hu : Below w.heap.size w u) k (hk : 0 ≤ k ∧ k ≤ 2199023255552) => r9_of _ d k R u (fun h => (hR h).keep hu) (hd.keep hu) ok hn hm hk
  have hall := all_len d
  have hl := ok.len
  have hke := ok.allmem
  have hlen := idsL_len d (d.all.map (·.1))
  have HNOW := Lib.hid hnow
  have HOF := Lib.hid hof
  have HQ := Lib.hid hq
  have HLEN := Lib.hid hlen
  unfold idsF
  obtain ⟨N, hN⟩ : ∃ N, d.all.length = N := ⟨_, rfl⟩
  have HN := Lib.hid hN
  have hNb : N ≤ 40000 := by omega
  clear hnow hof hd ok hq hR hall hl hke hlen hN
  go_enter Try.func45, Try.ntmps45
  go_upto_region 1 with (fail)
  obtain ⟨u0, hu⟩ : ∃ u, w.alloc (.cells #[.int .i64 d.room, .int .i64 d.fails, .int .i64 d.wait, .slice ps ns cs, .slice pl nl cl] 39) = u := ⟨_, rfl⟩
  rw [hu]
  have k00 : Below w.heap.size w u0 := by rw [← hu]; exact al (Below.refl _ _) _
  have rb0 : RowAt u0 w.heap.size #[.int .i64 d.room, .int .i64 d.fails, .int .i64 d.wait, .slice ps ns cs, .slice pl nl cl] 39 := by rw [← hu]; exact RowAt.new w _ _
  have c0 := rb0.cell
  have z0 := rb0.lt
  clear hu
  go_wp2_with fail
  (refine (HNOW.out _ k00).mono ?_; rintro e w1 ⟨v1, rs, rfl, hr1, hrel, hb1⟩)
  have k1 := chain k00 hb1
  replace rb0 := rb0.keep hb1
  have hkeys := rel_keys9 hrel
  have hrl : rs.length = N := by rw [hrel.len, HN.out]
  obtain ⟨pr, cr, rfl, hf⟩ := hr1.form
  have HF := Lib.hid hf
  rw [hrl]
  have HK := Lib.hid hkeys
  have HRL := Lib.hid hrl
  have K1 := Lib.hid k1
  have RB := Lib.hid rb0
  clear hr1 hrel hb1 hkeys hrl hf k1 rb0 c0 z0 k00
  go_wp2_with fail
  go_loopw [4, 5, 6, 7, 8, 9] (fun o i _ _ _ _ wr => ∃ j : Nat, j ≤ N ∧ i = .int .i64 j ∧ wr.ownsRow w1.heap.size 3 1 o (idsL d ((d.all.map (·.1)).take j)).length (intVs (idsL d ((d.all.map (·.1)).take j))) ∧ Below w1.heap.size w1 wr) (fun _ i _ _ _ _ _ => N - (intOf i).toNat)
  case atStart => exact ⟨0, by omega, rfl, by simpa [idsL, intVs] using World.ownsRow_nil _ _ _ _, Below.refl _ _⟩
  case round =>
    obtain ⟨j, hj, rfl, ho, kw⟩ := hrel
    by_cases hlt : j < N
    · have hjr : j < rs.length := by rw [HRL.out]; exact hlt
      have hjk : j < (d.all.map (·.1)).length := by rw [List.length_map, HN.out]; exact hlt
      have hja : j < d.all.length := by rw [HN.out]; exact hlt
      obtain ⟨g, off, rfl, hcap, zg0, hx⟩ := HF.out (by omega)
      obtain ⟨h0, h1⟩ := hx j hjr
      have hS := idsL_snoc d ((d.all.map (·.1)).take j) (d.all.map (·.1))[j]
      rw [← take_succ_get _ j hjk] at hS
      have hln := HLEN.out j (by omega)
      have eq1 : rs[j].1 = (d.all.map (·.1))[j] := by
        have := congrArg (fun l => l[j]?) HK.out
        simp only [List.getElem?_map] at this
        rw [List.getElem?_eq_getElem hjr, List.getElem?_eq_getElem hja] at this
        simp only [Option.map_some, Option.some.injEq] at this
        rw [List.getElem_map]; exact this
      have hb := HQ.out d.all[j] (List.getElem_mem hja)
      have eq2 : (d.all.map (·.1))[j] = d.all[j].1 := List.getElem_map ..
      rw [eq1] at h0
      rw [eq2] at h0 hS
      generalize d.all[j].1 = q at *
      generalize idsL d ((d.all.map (·.1)).take j) = A at *
      unfold idStep at hS
      obtain ⟨id, hid⟩ : ∃ y, q / 2 = y := ⟨_, rfl⟩
      rw [hid] at hS
      have hib : 0 ≤ id ∧ id ≤ 2199023255552 := by constructor <;> omega
      have hdv : q.tdiv 2 = id := by rw [Int.tdiv_eq_ediv_of_nonneg hb.1]; exact hid
      have hwd : IntKind.i64.wrap id = id := IntWalk.i64_in _ (by omega)
      have d0 := keepc kw zg0 h0
      have zg := size_lt zg0 kw
      have hof := HOF.out wr (chain K1.out kw) id hib
      generalize of9 d id = o9 at *
      obtain ⟨os, ov, ob⟩ := o9
      dsimp only at hof hS
      have HOW := Lib.hid hof
      obtain ⟨a, ha⟩ : ∃ a, A.length = a := ⟨_, rfl⟩
      rw [ha] at hln ho
      have HA := Lib.hid ha
      have HO := Lib.hid ho
      have KW := Lib.hid kw
      have hcN : N ≤ cr := by rw [← HRL.out]; exact hcap
      have rb := RB.out.keep kw
      have c0 := rb.cell
      have z0 := rb.lt
      obtain ⟨po, co, rfl⟩ := own_form ho
      have HS0 := Lib.hid hS
      clear hx h0 h1 hjr hjk hja hS eq1 eq2 hb hid hof ho kw hcap rb
      clear ha
      go_wp2_with fail
      (refine (HOW.out).mono ?_; rintro e w2 ⟨xb, rfl, hxb, hb2⟩)
      have k2 := chain KW.out hb2
      have ho2 := own_keep HO.out hb2
      clear hxb hb2 c0 z0 d0 zg
      by_cases q1 : 0 < ov
      · have g1 : decide (0 < ov) = true := by simpa using q1
        have g1' : decide (ov > 0) = true := g1
        by_cases q2 : a = 0
        · have hA0 : A = [] := by have := HA.out; rw [q2] at this; exact List.length_eq_zero_iff.1 this
          have HS := Lib.hid (HS0.out.trans (if_pos ⟨q1, .inl hA0⟩))
          subst q2
          clear q1 g1 hA0
          go_wp2_with (at_builtin; refine app_int _ rfl _ _ 79 rfl w1.heap.size 3 i0 _ Try.underlying79 hi hz hsz hby rfl _ _ _ rfl (ho2.alloc _) w2.heap.size (.int .i64 id) rfl (by go_simp) rfl (by omega) (by have := k2.size; simp; omega) ?_; intro v3 w3 ho3 hg3)
          have k3 : Below w1.heap.size w1 w3 := Below.own (al k2 _) (ho2.alloc _) hg3
          have FO := Lib.hid ho3
          have FK := Lib.hid k3
          clear ho3 hg3
          go_wp2_with fail
          go_roundw
          case rel =>
            refine ⟨j + 1, by omega, by go_num, ?_, FK.out⟩
            rw [HS.out, List.length_append, List.length_singleton]
            have := FO.out
            simpa [intVs, HA.out] using this
          case measure => simp [intOf]; omega
        · obtain ⟨c, rfl⟩ : ∃ c, a = c + 1 := ⟨a - 1, by omega⟩
          have g2 : (((c + 1 : Nat) : Int) == 0) = false := by simp; omega
          have g2' : decide (((c + 1 : Nat) : Int) = 0) = false := by simp; omega
          have w5 : IntKind.i64.wrap (((c + 1 : Nat) : Int) - 1) = (c : Int) := by rw [show ((c + 1 : Nat) : Int) - 1 = (c : Int) by omega]; exact IntWalk.i64_in _ (by omega)
          have w6 : max (c : Int) 0 = (c : Int) := by omega
          have hAn : A ≠ [] := fun h => by have := HA.out; rw [h] at this; simp at this
          obtain ⟨lst, hlst⟩ : ∃ y, A[c]? = some y := ⟨A[c]'(by have := HA.out; omega), List.getElem?_eq_getElem _⟩
          have hgl : A.getLast? = some lst := by rw [List.getLast?_eq_getElem?, HA.out]; exact hlst
          obtain ⟨g2b, cap2, hsl⟩ := own_some ho2 (by omega)
          rw [hsl] at ho2
          simp only [Value.slice.injEq] at hsl
          obtain ⟨hpo, hcc0, hco⟩ := hsl
          clear hcc0
          subst hpo hco
          have d1 : w2.cell? ⟨g2b, c, none⟩ = some (.int .i64 lst) := own_cell ho2 c (by simp [intVs, hlst])
          obtain ⟨_, zg2⟩ := own_open ho2
          have hcc : c + 1 ≤ co := by
            rcases ho2.2 with ⟨h, _⟩ | ⟨g', cap', cur, e, _, _, h, _⟩
            · cases h
            · simp only [Value.slice.injEq] at e
              obtain ⟨_, _, rfl⟩ := e
              exact h
          by_cases q3 : lst = id
          · have g3 : (lst != id) = false := by simpa using q3
            have g3' : (lst == id) = true := by simpa using q3
            have HS := Lib.hid (HS0.out.trans (if_neg (fun h => by
              rcases h.2 with h | h
              · exact hAn h
              · exact h (by rw [hgl, q3]))))
            have ho2' : w2.ownsRow w1.heap.size 3 1 (.slice (some ⟨g2b, 0, none⟩) (c + 1) co) A.length (intVs A) := by rw [HA.out]; exact ho2
            clear q1 q2 q3 hAn hlst hgl ho2
            have FO := Lib.hid ho2'
            have FK := Lib.hid k2
            go_wp2_with fail
            go_roundw
            case rel =>
              refine ⟨j + 1, by omega, by go_num, ?_, FK.out⟩
              rw [HS.out]
              exact FO.out
            case measure => simp [intOf]; omega
          · have g3 : (lst != id) = true := by simpa using q3
            have g3' : (lst == id) = false := by simpa using q3
            have HS := Lib.hid (HS0.out.trans (if_pos ⟨q1, .inr (by rw [hgl]; intro h; cases h; exact q3 rfl)⟩))
            clear q1 q2 q3 hAn hlst hgl
            go_wp2_with (at_builtin; refine app_int _ rfl _ _ 79 rfl w1.heap.size 3 i0 _ Try.underlying79 hi hz hsz hby rfl _ _ _ rfl (ho2.alloc _) w2.heap.size (.int .i64 id) rfl (by go_simp) rfl (by omega) (by have := k2.size; simp; omega) ?_; intro v3 w3 ho3 hg3)
            have k3 : Below w1.heap.size w1 w3 := Below.own (al k2 _) (ho2.alloc _) hg3
            have FO := Lib.hid ho3
            have FK := Lib.hid k3
            clear ho3 hg3
            go_wp2_with fail
            go_roundw
            case rel =>
              refine ⟨j + 1, by omega, by go_num, ?_, FK.out⟩
              rw [HS.out, List.length_append, List.length_singleton]
              have := FO.out
              simpa [intVs, HA.out] using this
            case measure => simp [intOf]; omega
      · have g1 : decide (0 < ov) = false := by simpa using q1
        have g1' : decide (ov > 0) = false := g1
        have HS := Lib.hid (HS0.out.trans (if_neg (fun h => q1 h.1)))
        clear q1
        have ho2' : w2.ownsRow w1.heap.size 3 1 (.slice po a co) A.length (intVs A) := by rw [HA.out]; exact ho2
        clear ho2
        have FO := Lib.hid ho2'
        have FK := Lib.hid k2
        go_wp2_with fail
        go_roundw
        case rel =>
          refine ⟨j + 1, by omega, by go_num, ?_, FK.out⟩
          rw [HS.out]
          exact FO.out
        case measure => simp [intOf]; omega
    · obtain rfl : j = N := by omega
      have e : (d.all.map (·.1)).take j = d.all.map (·.1) := by
        have hl : (d.all.map (·.1)).length = j := by rw [List.length_map, HN.out]
        rw [← hl, List.take_length]
      rw [e] at ho
      have FO := Lib.hid (ints_of_owned ho)
      have FK := Lib.hid (chain K1.out kw)
      clear ho kw e
      go_wp2_with fail
      go_ret
      exact ⟨_, rfl, FO.out, FK.out⟩
end Go.Proofs.Ythjekbbldejlpaa
