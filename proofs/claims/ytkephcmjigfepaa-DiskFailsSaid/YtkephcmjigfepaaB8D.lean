/- The landed disk: words of whole states; Sync, Get, Keys. -/
import Derived.Test.YtkephcmjigfepaaB8W
import Derived.Test.YtkephcmjigfepaaB8C
import Derived.Test.YtkephcmjigfepaaIter
import Derived.OwnWalkIn
set_option linter.unusedVariables false
set_option linter.unusedSimpArgs false
namespace Go.Proofs.Ytkephcmjigfepaa
open Go.ChangeShapes Go.WideShapes Go.ChangeAt Go.RowKit
theorem LD.make {w w' : World} {F F' X : Foot} {b bl bs bl' : Nat} {vw vw' : Value} {RL RS RW RL' RS' RW' : List Raw} {d d' : St} (h : LD w F b bl bs vw RL RS RW d) (hw : Wr X w w')
    (hX : ∀ x, X x → F' x → ∀ c t f, w'.heap[x]? = some (Obj.cells c t f) → ¬ calmT t)
    (row' : RowAt w' b #[.int .i64 d'.room, .map (some bl'), .int .i64 (sumB d'.all), .map (some bs), vw', .bool (decide (0 < d'.wait)), .int .i64 d'.fails] 57)
    (ml' : MapAt w' bl' RL') (ms' : MapAt w' bs RS') (way' : w'.ownsRow 0 73 2 vw' RW'.length (rawVs RW')) (rl' : RelG (BlobIn F' w') RL' d'.all) (rs' : RelG (BlobIn F' w') RS' d'.safe) (ru' : RelG (BlobIn F' w') RW' d'.under)
    (fb : F' b) (fl : F' bl') (fs : F' bs) (fw : ∀ g, vw'.ownBlock = some g → F' g) (ne : bl' ≠ bs)
    (hN : ∀ x, F' x → F x ∨ (w.heap.size ≤ x ∧ x < w'.heap.size ∧ ∀ c t f, w'.heap[x]? = some (Obj.cells c t f) → ¬ calmT t)) : LD w' F' b bl' bs vw' RL' RS' RW' d' := by
  refine ⟨row', ml', ms', way', rl', rs', ru', fb, fl, fs, fw, ne, fun x hx => ?_, fun x c t f hx ht => ?_⟩
  · rcases hN x hx with h1 | h1
    · exact Nat.lt_of_lt_of_le (h.lt x h1) hw.size
    · exact h1.2.1
  · by_cases hXx : X x
    · exact hX x hXx hx c t f ht
    · rcases hN x hx with h1 | h1
      · exact h.ty x c t f h1 ((hw.block x (h.lt x h1) hXx).symm.trans ht)
      · exact h1.2.2 c t f ht
section
variable {w w' : World} {F : Foot} {b bl bs : Nat} {vw : Value} {RL RS RW : List Raw} {d d' : St}
theorem row_ty {w : World} {b : Nat} {cs : Array Value} (r : RowAt w b cs 57) {c : Array Value} {t : TypeId} {f : Nat × Nat} (h : w.heap[b]? = some (Obj.cells c t f)) : ¬ calmT t := by
  unfold RowAt at r
  rw [h] at r
  simp only [Option.some.injEq, Obj.cells.injEq] at r
  exact notcalm (.inl r.2.1)
/-- Its row alone is written. -/
theorem LD.turn (h : LD w F b bl bs vw RL RS RW d) (hw : Wr (fun x => x = b) w w') (r : RowAt w' b #[.int .i64 d'.room, .map (some bl), .int .i64 (sumB d.all), .map (some bs), vw, .bool (decide (0 < d'.wait)), .int .i64 d'.fails] 57)
    (e1 : d'.safe = d.safe) (e2 : d'.under = d.under) : LD w' F b bl bs vw RL RS RW d' := by
  obtain ⟨n1, n2, n3, n4, n5⟩ := h.nb
  have ea : d'.all = d.all := by unfold St.all; rw [e1, e2]
  have hB : ∀ {v : Value} {B : List Int}, BlobIn F w v B → BlobIn F w' v B := fun hb => hb.wr hw (fun x c f hx => h.off x c f (.inl hx)) (fun _ h => h)
  refine h.make hw (fun x hx _ c t f ht => by cases hx; exact row_ty r ht) (by rw [ea]; exact r) (h.ml.same (hw.block bl h.ml.lt n1)) (h.ms.same (hw.block bs h.ms.lt n2)) (hw.own h.way (fun g hg e => n3 (by rw [hg, e]))) (by rw [ea]; exact h.rl.map hB) (by rw [e1]; exact h.rs.map hB) (by rw [e2]; exact h.ru.map hB)
    h.fb h.fl h.fs h.fw h.ne (fun x hx => .inl hx)
theorem LD.keep (h : LD w F b bl bs vw RL RS RW d) (hb : Below w.heap.size w w') : LD w' F b bl bs vw RL RS RW d := h.same fun x hx => hb.block x (h.lt x hx)
theorem LD.lenW (h : LD w F b bl bs vw RL RS RW d) : lenR RW = sumB d.under := h.ru.sum
/-- Behind a sync. -/
theorem LD.synced (h : LD w F b bl bs vw RL RS RW d) (hW : WroteTo w w' F b bl bs d.safe d.under #[.int .i64 d.room, .map (some bl), .int .i64 (sumB d.all), .map (some bs), .slice none 0 0, .bool (decide (0 < d.wait)), .int .i64 d.fails] (sumB d.under)) :
    ∃ R G, LD w' G b bl bs (.slice none 0 0) RL R [] { d with safe := d.all, under := [] } ∧ Step F G w w' := by
  obtain ⟨n1, n2, n3, n4, n5⟩ := h.nb
  obtain ⟨R, G, row, hM, hR, hw, hG, hN⟩ := hW
  rw [crash_full _ _ _ (Nat.le_refl _)] at hR
  have ea : ({ d with safe := d.all, under := [] } : St).all = d.all := rfl
  refine ⟨R, G, ?_, hw.step (fun x hx => ?_) (fun x hx => (hN x hx).imp_right (·.1))⟩
  · refine h.make hw (fun x hx _ c t f ht => ?_) row (h.ml.same (hw.block bl h.ml.lt (fun e => e.elim n1 h.ne))) hM (World.ownsRow_nil _ _ _ _) (h.rl.map fun hb => hb.wr hw (fun x c f hx => h.off x c f (by rcases hx with hx | hx; exact .inl hx; exact .inr (.inr (.inl hx)))) hG) hR .nil
      (hG _ h.fb) (hG _ h.fl) (hG _ h.fs) (fun g hg => by cases hg) h.ne (fun x hx => (hN x hx).imp_right fun ⟨h1, h2, cur, f, h3⟩ => ⟨h1, h2, fun c t f' ht => by rw [h3] at ht; cases ht; exact notcalm (.inr (.inr rfl))⟩)
    rcases hx with rfl | rfl
    · exact row_ty row ht
    · exact (hM.nocells ht).elim
  · rcases hx with rfl | rfl
    · exact h.fb
    · exact h.fs
end
theorem DiskAt.step {w w' : World} {F : Foot} {b : Nat} (hw : Wr (fun x => x = b) w w') (hb : F b) : Step F F w w' := hw.step (fun x hx => by cases hx; exact hb) (fun x hx => .inl hx)
set_option maxHeartbeats 4000000 in
theorem b8_sync (w : World) (F : Foot) (p : Value) (d : St) (n m : Nat) (hA : DiskAt w F p d) (ok : StOk d n m) (hn : n ≤ 30000) (hm : m ≤ 50000000) :
    Calls Try.prog 18 #[p] w fun e w' => ∃ F', e = .returned (.int .i64 (syncSt d).2) ∧ DiskAt w' F' p (syncSt d).1 ∧ Step F F' w w' := by
  obtain ⟨b, bl, bs, vw, RL, RS, RW, rfl, h⟩ := hA
  have hf := ok.fails
  have ok2 := ok.asked
  have hlen := ok.len
  have hsum := ok.sum
  have e1 := b8_failing w b _ _ _ _ _ d.fails d.wait ⟨hf.1, by omega⟩ h.row
  have hLD := fun (w1 : World) (r : RowAt w1 b _ _) (hw : Wr (fun x => x = b) w w1) => h.turn (d' := d.asked) hw r rfl rfl
  have hfb := h.fb
  have hG : ∀ {w1 : World}, Wr (fun x => x = b) w w1 → Step F F w w1 := fun hw => DiskAt.step hw hfb
  unfold syncSt
  unfold St.falls
  cases hfa : (askF d.fails d.wait).2
  · rw [hfa] at e1
    rw [if_neg (by simp)]
    have E1 := Lib.hid e1
    have LDH := Lib.hid hLD
    have OK2 := Lib.hid ok2
    have H := Lib.hid h
    have HG := Lib.hid (fun (w1 : World) (k : Wr (fun x => x = b) w w1) => hG k)
    clear e1 hLD ok2 h hfa ok hG
    go_enter Try.func18, Try.ntmps18
    go_wp2_with fail
    (refine (E1.out).mono ?_; rintro e w1 ⟨rfl, r1, k1⟩)
    have h1 := LDH.out w1 r1 k1
    have hL := b8_left w1 b _ _ _ _ _ _ _ RW h1.row h1.way (h1.ru.ok OK2.out.ru) (by have := h1.ru.len; have e : d.asked.under = d.under := rfl; rw [e] at this; omega) (by have := h1.lenW; have e : d.asked.under = d.under := rfl; rw [e] at this; omega)
    have hu := h1.lenW
    rw [hu] at hL
    have HL := Lib.hid hL
    have H1 := Lib.hid h1
    have K1 := Lib.hid k1
    clear r1 k1 hL h1 hu
    go_wp2_with fail
    (refine (HL.out).mono ?_; rintro e w2 ⟨rfl, k2⟩)
    have h2 := H1.out.keep k2
    have hW := b8_write w2 F b bl bs vw RL RS RW d.asked n m h2 OK2.out hn hm (sumB d.asked.under) (by have e : d.asked.under = d.under := rfl; rw [e]; omega)
    have HW := Lib.hid hW
    have H2 := Lib.hid h2
    have K2 := Lib.hid k2
    clear k2 h2 hW
    go_wp2_with fail
    (refine (HW.out).mono ?_; rintro e w3 ⟨⟨v3, rfl⟩, hw3⟩)
    obtain ⟨R, G, h3, s3⟩ := H2.out.synced hw3
    have S3 := Lib.hid s3
    have H3 := Lib.hid h3
    clear s3 h3 hw3
    go_wp2
    go_ret
    exact ⟨G, rfl, ⟨b, bl, bs, _, RL, R, [], rfl, H3.out⟩, ((HG.out _ K1.out).trans (Step.of K2.out)).trans S3.out⟩
  · rw [hfa] at e1
    rw [if_pos rfl]
    have E1 := Lib.hid e1
    have LDH := Lib.hid hLD
    have HG := Lib.hid (fun (w1 : World) (k : Wr (fun x => x = b) w w1) => hG k)
    clear e1 hLD ok2 h hfa ok hG
    go_enter Try.func18, Try.ntmps18
    go_wp2_with fail
    (refine (E1.out).mono ?_; rintro e w1 ⟨rfl, r1, k1⟩)
    have h1 := Lib.hid (LDH.out w1 r1 k1)
    have s1 := Lib.hid (HG.out w1 k1)
    clear r1 k1
    go_wp2
    go_ret
    exact ⟨F, rfl, ⟨b, bl, bs, vw, RL, RS, RW, rfl, h1.out⟩, s1.out⟩
end Go.Proofs.Ytkephcmjigfepaa
