/- The landed disk: Crash. -/
import Derived.Test.YtkephcmjigfepaaB8H
import Derived.Lib.MinMax
set_option linter.unusedVariables false
set_option linter.unusedSimpArgs false
namespace Go.Proofs.Ytkephcmjigfepaa
open Go.ChangeShapes Go.WideShapes Go.ChangeAt Go.RowKit
def slMk (x : Option Addr × Nat × Nat) : Value := .slice x.1 x.2.1 x.2.2
set_option maxRecDepth 10000 in
set_option maxHeartbeats 8000000 in
theorem b8_crash (w : World) (F : Foot) (p : Value) (d : St) (keep : Int) (n m : Nat) (hA : DiskAt w F p d) (ok : StOk d n m) (hn : n ≤ 30000) (hm : m ≤ 50000000) (hk : i64 keep) :
    Calls Try.prog 20 #[p, .int .i64 keep] w fun e w' => ∃ F', e = .returned (.int .i64 (crashSt d keep).2) ∧ DiskAt w' F' p (crashSt d keep).1 ∧ Step F F' w w' := by
  obtain ⟨b, bl, bs, vw, RL, RS, RW, rfl, h⟩ := hA
  have hmm := @run_makeMap Try.prog
  obtain ⟨hk0, hk1⟩ := hk
  have hlen := ok.len
  have hsum := ok.sum
  have hL := b8_left w b _ _ _ _ _ _ _ RW h.row h.way (h.ru.ok ok.ru) (by have := h.ru.len; omega) (by have := h.lenW; omega)
  rw [h.lenW] at hL
  obtain ⟨K, hK⟩ : ∃ K : Nat, keep.toNat = K := ⟨_, rfl⟩
  have hmax : max keep 0 = (K : Int) := by omega
  obtain ⟨T, hT⟩ : ∃ T, sumB d.under = T := ⟨_, rfl⟩
  rw [hT] at hL hsum
  have g1 : IntKind.i64.wrap ((T : Int) - (K : Int)) = (T : Int) - K := IntWalk.i64_in _ (by omega)
  obtain ⟨Y, hY⟩ : ∃ Y, max ((T : Int) - (K : Int)) 0 = Y := ⟨_, rfl⟩
  have hres : (crashSt d keep).2 = Y := by
    unfold crashSt keptOf
    simp only []
    rw [hT, hK, ← hY]
    omega
  rw [hres]
  have hwr := fun (w1 : World) (hb : Below w.heap.size w w1) => b8_write w1 F b bl bs vw RL RS RW d n m (h.keep hb) ok hn hm K (by omega)
  have hcs : sumB (crashGo List.length cutB d.safe K d.under) ≤ 50000000 := by
    refine Nat.le_trans (crash_sum d.under d.safe K) ?_
    omega
  have hcl : (crashGo List.length cutB d.safe K d.under).length ≤ 30000 := by
    refine Nat.le_trans (crash_len d.under d.safe K) ?_
    omega
  have hcr : Srt (crashGo List.length cutB d.safe K d.under) := ok.srt.crash
  have hck : keysOk (crashGo List.length cutB d.safe K d.under) := fun x hx => (crash_all (p := fun x => i64 x.1 ∧ bytOk x.2) (fun q B j hq => ⟨hq.1, hq.2.take j⟩) ok.keyS ok.keyU x hx).1
  have srt := ok.srt
  have HL := Lib.hid hL
  have HW := Lib.hid hwr
  have H := Lib.hid h
  have HK := Lib.hid hK
  have HCS := Lib.hid hcs
  have HCL := Lib.hid hcl
  have HCR := Lib.hid hcr
  have HCK := Lib.hid hck
  have SRT := Lib.hid srt
  clear hL hwr hcs hcl hcr hck srt h ok hK hT hres hlen hsum
  go_enter Try.func20, Try.ntmps20
  go_wp2_with fail
  (refine (HL.out).mono ?_; rintro e w1 ⟨rfl, hb1⟩)
  have HB1 := Lib.hid hb1
  clear hb1
  go_wp2_with fail
  (refine (HW.out w1 HB1.out).mono ?_; rintro e w2 ⟨⟨v2, rfl⟩, hw2⟩)
  have HW2 := Lib.hid hw2
  obtain ⟨R, G, row2, hM2, hR2, kw2, hG, hN⟩ := hw2
  have hRs : Srt R := rel_srt hR2 HCR.out
  have hRl : lenR R ≤ 50000000 := by rw [hR2.sum]; exact HCS.out
  have hRn : R.length ≤ 30000 := by rw [hR2.len]; exact HCL.out
  have hRk := hR2.ok HCK.out
  have hbs := hM2.lt
  have hbb : bs ≠ b := by rintro rfl; exact hM2.nocells row2
  have HRS := Lib.hid hRs
  have HRK := Lib.hid hRk
  have HM2 := Lib.hid hM2
  have R2 := Lib.hid row2
  have zb := row2.lt
  have c1 : w2.cell? ⟨b, 1, none⟩ = some (.map (some bl)) := by rw [row2.cell]; rfl
  have c2 : w2.cell? ⟨b, 2, none⟩ = some (.int .i64 (sumB d.all : Nat)) := by rw [row2.cell]; rfl
  have f1 := row2.frozen 1
  have f2 := row2.frozen 2
  clear hR2 kw2 hG hN hRs hRk hM2 row2
  go_upto_region 5 with (fail)
  obtain ⟨m0, hm0⟩ : ∃ m, w2.heap.size = m := ⟨_, rfl⟩
  have HM0 := Lib.hid hm0
  obtain ⟨u3, hu3⟩ : ∃ u, (((w2.setCell ⟨b, 1, none⟩ (.map (some w2.heap.size))).setCell ⟨b, 2, none⟩ (.int .i64 0)).alloc (Obj.map #[] 0)) = u := ⟨_, rfl⟩
  rw [hu3]
  have s3 : u3.heap.size = m0 + 1 := by rw [← hu3, ← hm0]; simp
  have k3 : Wr (fun x => x = b ∨ x = m0) w2 u3 := by rw [← hu3]; exact (((Wr.refl _ _).put (.inl (.inl rfl)) 1 _).put (.inl (.inl rfl)) 2 _).alloc _
  have row3 : RowAt u3 b #[.int .i64 d.room, .map (some m0), .int .i64 (lenR [] : Nat), .map (some bs), .slice none 0 0, .bool (decide (0 < d.wait)), .int .i64 d.fails] 57 := by
    rw [← hu3, ← hm0]
    exact ((R2.out.set 1 (.map (some w2.heap.size))).set 2 (.int .i64 0)).alloc _
  have hM3 : MapAt u3 m0 [] := by
    have h1 := MapAt.new ((w2.setCell ⟨b, 1, none⟩ (.map (some w2.heap.size))).setCell ⟨b, 2, none⟩ (.int .i64 0))
    rw [hu3] at h1
    have e : ((w2.setCell ⟨b, 1, none⟩ (.map (some w2.heap.size))).setCell ⟨b, 2, none⟩ (.int .i64 0)).heap.size = m0 := by rw [← hm0]; simp
    rwa [e] at h1
  have hS3 : MapAt u3 bs R := HM2.out.same (k3.block bs hbs (fun e => by rcases e with e | e; exact hbb e; omega))
  rw [hm0]
  have hbm : bs ≠ m0 := by omega
  have hmb : m0 ≠ b := by omega
  have zb3 := row3.lt
  have e3 : u3.cell? ⟨b, 3, none⟩ = some (.map (some bs)) := by rw [row3.cell]; rfl
  have K3 := Lib.hid k3
  have R3 := Lib.hid row3
  have M3 := Lib.hid hM3
  have S3 := Lib.hid s3
  clear hu3 hm0 s3 k3 row3 hM3 hbs zb c1 c2 f1 f2
  go_wp2_with (first
    | (at_range
       refine wpList_range_own _ rfl _ 54 rfl 3 32 keyI Try.underlying54 slR bs R.length (mapE R) rfl hS3 ?_
       intro w4 hrg4 hg4 hs4)
    | go_in)
  go_frame
  have row4 := (hg4.block b R3.out.lt (by simp)).trans R3.out
  have hM4 : MapAt w4 m0 [] := M3.out.same (hg4.block m0 M3.out.lt (by simp))
  have K4 := Lib.hid (K3.out.grown hg4 (fun q e => by cases e))
  have hrb : b < u3.heap.size := zb3
  have hrm : m0 < u3.heap.size := M3.out.lt
  have S4 := Lib.hid hs4
  have ROW4 := Lib.hid row4
  clear hs4 hg4 e3 zb3 row4
  go_loopw [6, 7] (fun _ _ wr => ∃ left cnt L, wr.ranges Try.prog 3 slR bs u3.heap.size R.length (mapE R) left cnt ∧ MapAt wr m0 L ∧ Srt L ∧ Go.Maps.Agree (mapE L) (mapE R) left ∧
    RowAt wr b #[.int .i64 d.room, .map (some m0), .int .i64 (lenR L : Nat), .map (some bs), .slice none 0 0, .bool (decide (0 < d.wait)), .int .i64 d.fails] 57 ∧ Wr (fun x => x = b ∨ x = m0) w2 wr) (fun _ _ wr => wr.rangeLeft bs u3.heap.size)
  case atStart => exact ⟨_, _, [], hrg4, hM4, List.Pairwise.nil, Go.Maps.agree_start _, ROW4.out, K4.out⟩
  case round =>
    obtain ⟨left, cnt, L, hrg, hM, hL, hA, row, kw⟩ := hrel
    have HL' := Lib.hid hL
    have HA := Lib.hid hA
    have ROW := Lib.hid row
    have KW := Lib.hid kw
    have HM := Lib.hid hM
    clear hL hA row kw hM
    go_wp2_with (first
      | (at_next
         refine wpList_next_ranges _ rfl _ rfl 3 keyI slR (Value.int .i64) slMk (fun key kl hkey => by obtain ⟨x, hx, _⟩ := Maps.keyOf_int_inv Try.underlying3 hkey; exact ⟨x, hx⟩) (fun v y hv => by obtain ⟨⟨p, n, c, rfl⟩, _⟩ := slR_inv hv; exact ⟨(p, n, c), rfl⟩) bs u3.heap.size R.length _ _ _ rfl hrg ?_ ?_)
      | go_in)
    · intro hc0 hl0
      have hS : MapAt wr bs R := hrg.owns
      obtain rfl : L = R := agree_done HM.out hS HA.out hl0
      have hff := b8_fail wr b _ _ _ _ _ _ _ 0 (by constructor <;> omega) ROW.out
      have HF := Lib.hid hff
      clear hrg hS hl0 hff hc0
      go_wp2_with fail
      (refine (HF.out).mono ?_; rintro e w8 ⟨⟨v8, rfl⟩, r8, k8⟩)
      obtain ⟨F', hfin, hst⟩ := (H.out.keep HB1.out).crashed (keep := keep) (by rw [HK.out]; exact HW2.out) HM0.out.symm L HM2.out ((KW.out.trans (k8.mono fun x hx => .inl hx))) (HM.out.same (k8.block m0 HM.out.lt hmb)) r8 SRT.out
      have HFI := Lib.hid hfin
      have HST := Lib.hid hst
      clear r8 k8 hfin hst
      go_wp2
      go_ret
      exact ⟨F', rfl, ⟨b, m0, bs, _, _, _, _, rfl, HFI.out⟩, (Step.of HB1.out).trans HST.out⟩
    · intro x cp cn cc kl yd yp w5 cnt5 hkey hlk hy hat hrg5 hlt5 hg5 hs5 hen
      obtain ⟨x', ex, rfl, hwx⟩ := Maps.keyOf_int_inv Try.underlying3 hkey
      cases ex
      have hy2 : yd = .held (.slice cp cn cc) := by
        have h1 : slR (slMk (cp, cn, cc)) = some (yd, yp) := hy
        obtain ⟨_, h2⟩ := slR_inv h1
        exact (Prod.mk.inj h2).1
      have hat2 : ∀ z : DataW Value, (mapE R).atKey (.int .i64 x) z = .held (.slice cp cn cc) := fun z => by rw [hat z, hy2]
      have hxi := (HRK.out _ (getF_in (at_get hat2))).1
      obtain ⟨a1, a2, a3, a4, a5, a6⟩ := agree_more HA.out HL'.out HRS.out hxi hlk hat2
      have a3' : lenR (insF L (x, .slice cp cn cc)) = lenR L + cn := a3
      have hen' : (Instr.entry (.pointer (some ⟨u3.heap.size, 0, none⟩))).run Try.prog w5 = .ok (.tuple #[.int .i64 x, .slice cp cn cc]) w5 := hen
      have row5 := (hg5.block b ROW.out.lt (fun e => by cases e; omega)).trans ROW.out
      have hM5 : MapAt w5 m0 L := HM.out.same (hg5.block m0 HM.out.lt (fun e => by cases e; omega))
      have k5 : Wr (fun x => x = b ∨ x = m0) w2 w5 := KW.out.grown hg5 (fun q e => by cases e; right; have := S3.out; have := HM0.out; omega)
      have h9 : lenR L + cn ≤ 50000000 := by rw [← a3']; exact Nat.le_trans a4 hRl
      have wS : IntKind.i64.wrap (((lenR L : Nat) : Int) + (cn : Int)) = (lenR L : Nat) + cn := IntWalk.i64_in _ (by omega)
      have A1 := Lib.hid a1
      have A2 := Lib.hid a2
      have A3 := Lib.hid a3'
      have ROW5 := Lib.hid row5
      have HM5 := Lib.hid hM5
      have K5 := Lib.hid k5
      have RG := Lib.hid hrg
      have RG5 := Lib.hid hrg5
      have LT5 := Lib.hid hlt5
      have zb5 : b < w5.heap.size := RowAt.lt row5
      have e1 : w5.cell? ⟨b, 1, none⟩ = some (.map (some m0)) := by rw [RowAt.cell row5]; rfl
      obtain ⟨LL, hLL⟩ : ∃ q, lenR L = q := ⟨_, rfl⟩
      rw [hLL] at wS
      have HLL := Lib.hid hLL
      clear hkey hlk hy hat hg5 hs5 hen hy2 hat2 a1 a2 a3 a3' a4 a6 h9 row5 hM5 k5 hrg hrg5 hlt5 hwx hLL
      go_wp2_with (first
        | (at_mapUpdate
           refine wp_upd _ rfl _ _ _ rfl m0 L rfl HM5.out HL'.out (by omega) x rfl hxi (.slice cp cn cc) rfl ⟨_, _, _, rfl⟩ ?_
           intro w6 hM6 hg6 hs6
           have row6 := (hg6.block b (RowAt.lt ROW5.out) (fun e => hmb (by cases e; rfl))).trans ROW5.out
           have HM6 := Lib.hid hM6
           have HG6 := Lib.hid hg6
           have ROW6 := Lib.hid row6
           have zb6 : b < w6.heap.size := RowAt.lt row6
           have e2 : w6.cell? ⟨b, 2, none⟩ = some (.int .i64 (LL : Nat)) := by rw [RowAt.cell row6, HLL.out]; rfl
           have f2 := RowAt.frozen row6 2
           clear hM6 hg6 hs6 row6 zb5 e1 hen')
        | go_in)
      have ks : Wr (fun x => x = b) w6 (w6.setCell ⟨b, 2, none⟩ (.int .i64 ((LL : Nat) + (cn : Int)))) := wr_set _ _ _ _
      have rg7 := (RG5.out.kept HG6.out (fun e => hbm (by cases e; rfl)) (fun e => by cases e; omega)).kept ks.one (fun e => hbb (by cases e; rfl)) (fun e => by cases e; omega)
      go_roundw
      case rel =>
        refine ⟨_, cnt5, insF L (x, .slice cp cn cc), rg7, HM6.out.same (ks.block m0 HM6.out.lt hmb), A2.out, A1.out, ?_, ((K5.out.grown HG6.out (fun q e => by cases e; exact .inl (.inr rfl))).trans (ks.mono fun x hx => .inl hx))⟩
        rw [A3.out, HLL.out]
        exact RowAt.set ROW6.out 2 (.int .i64 ((LL : Nat) + (cn : Int)))
      case measure => rw [rg7.left_eq, RG.out.left_eq]; exact LT5.out
end Go.Proofs.Ytkephcmjigfepaa
