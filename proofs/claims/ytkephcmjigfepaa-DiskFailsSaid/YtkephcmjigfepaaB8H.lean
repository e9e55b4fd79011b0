/- The landed disk: Crash, the words. -/
import Derived.Test.YtkephcmjigfepaaB8D
import Derived.Lib.MinMax
set_option linter.unusedVariables false
set_option linter.unusedSimpArgs false
namespace Go.Proofs.Ytkephcmjigfepaa
open Go.ChangeShapes Go.WideShapes Go.ChangeAt Go.RowKit
theorem Wr.one {b : Nat} {w w' : World} (h : Wr (fun x => x = b) w w') : w.grownBy w' (some b) := ⟨h.os, h.tape, h.output, h.size, fun k hk hn => h.block k hk (fun e => hn (by rw [e]))⟩
theorem sub_len : ∀ (S L : List Raw), Srt S → Srt L → (∀ x ∈ L, x ∈ S) → L.length ≤ S.length
  | [], [], _, _, _ => Nat.le_refl _
  | [], x :: L, _, _, h => by have := h x (List.mem_cons_self ..); cases this
  | s :: S, [], _, _, _ => by simp
  | s :: S, x :: L, hs, hl, h => by
    obtain ⟨s1, s2⟩ := List.pairwise_cons.1 hs
    obtain ⟨l1, l2⟩ := List.pairwise_cons.1 hl
    rcases List.mem_cons.1 (h x (List.mem_cons_self ..)) with rfl | hx
    · have := sub_len S L s2 l2 fun y hy => by
        rcases List.mem_cons.1 (h y (List.mem_cons_of_mem _ hy)) with rfl | hy2
        · have := l1 y hy; omega
        · exact hy2
      simp only [List.length_cons]; omega
    · have := sub_len S (x :: L) s2 hl fun y hy => by
        rcases List.mem_cons.1 (h y hy) with rfl | hy2
        · have h1 := s1 x hx
          rcases List.mem_cons.1 hy with rfl | hy3
          · omega
          · have := l1 y hy3; omega
        · exact hy2
      simp only [List.length_cons] at this ⊢; omega
theorem at_get {R : List Raw} {x : Int} {v : Value} (h : ∀ z : DataW Value, (mapE R).atKey (.int .i64 x) z = .held v) : getF R x = some v := by
  have h1 := h (.held (.bool true))
  have h2 := h (.held (.bool false))
  rw [mapE_at] at h1 h2
  cases hg : getF R x with
  | none =>
    rw [hg] at h1 h2
    simp only [Option.getD_none, DataW.held.injEq] at h1 h2
    rw [← h1] at h2
    cases h2
  | some y =>
    rw [hg] at h1
    simp only [Option.getD_some, DataW.held.injEq] at h1
    rw [h1]
theorem agree_sub {L R : List Raw} {left : Lit → Bool} (hA : Go.Maps.Agree (mapE L) (mapE R) left) (hs : Srt L) : ∀ x ∈ L, x ∈ R := by
  rintro ⟨k, v⟩ hx
  have h1 := mem_getF hs hx
  have h2 : Go.Maps.has (mapE L) (.int .i64 k) = true := by rw [mapE_has, h1]; rfl
  have h3 := hA.1 (.int .i64 k)
  rw [h2] at h3
  have h4 : Go.Maps.has (mapE R) (.int .i64 k) = true := by
    cases h : Go.Maps.has (mapE R) (.int .i64 k)
    · rw [h] at h3; cases h3
    · rfl
  have h5 := hA.2 (.int .i64 k) (.held (.bool true)) h2
  rw [mapE_at, mapE_at, h1] at h5
  rw [mapE_has] at h4
  cases h6 : getF R k with
  | none => rw [h6] at h4; cases h4
  | some y =>
    rw [h6] at h5
    simp only [Option.getD_some, DataW.held.injEq] at h5
    exact getF_in (h6.trans (by rw [h5]))
theorem agree_none {L R : List Raw} {left : Lit → Bool} (hA : Go.Maps.Agree (mapE L) (mapE R) left) {x : Int} (h : left (.int .i64 x) = true) : getF L x = none := by
  have h3 := hA.1 (.int .i64 x)
  rw [h, mapE_has] at h3
  cases hg : getF L x with
  | none => rfl
  | some y =>
    rw [hg] at h3
    simp at h3
/-- One entry more. -/
theorem agree_more {L R : List Raw} {left : Lit → Bool} (hA : Go.Maps.Agree (mapE L) (mapE R) left) (hL : Srt L) (hR : Srt R) {x : Int} {v : Value} (hk : i64 x) (hl : left (.int .i64 x) = true) (hat : ∀ z : DataW Value, (mapE R).atKey (.int .i64 x) z = .held v) :
    Go.Maps.Agree (mapE (insF L (x, v))) (mapE R) (fun z => left z && !z.sameKey (.int .i64 x)) ∧ Srt (insF L (x, v)) ∧ lenR (insF L (x, v)) = lenR L + slLen v ∧ lenR (insF L (x, v)) ≤ lenR R ∧ L.length ≤ R.length ∧ (x, v) ∈ R := by
  have hA2 := Go.Maps.agree_step hA ⟨_, rfl⟩ (keyI.key (key_of hk)) hat
  rw [mapE_put hL] at hA2
  have hs := ins_srt (x, v) L hL
  exact ⟨hA2, hs, lenR_ins (agree_none hA hl), lenR_sub R _ hR hs (agree_sub hA2 hs), sub_len R L hR hL (agree_sub hA hL), getF_in (at_get hat)⟩
/-- What a crash leaves of a disk. -/
theorem LD.crashed {w w2 w' : World} {F : Foot} {b bl bs m : Nat} {vw : Value} {RL RS RW : List Raw} {d : St} {keep : Int} (h : LD w F b bl bs vw RL RS RW d) {cs : Array Value} (hW : WroteTo w w2 F b bl bs d.safe d.under cs keep.toNat)
    (hm : m = w2.heap.size) (R : List Raw) (hR : MapAt w2 bs R) (hw : Wr (fun x => x = b ∨ x = m) w2 w') (hM : MapAt w' m R)
    (row : RowAt w' b #[.int .i64 d.room, .map (some m), .int .i64 (lenR R : Nat), .map (some bs), .slice none 0 0, .bool false, .int .i64 0] 57) (srt : Srt d.safe) :
    ∃ F', LD w' F' b m bs (.slice none 0 0) R R [] (crashSt d keep).1 ∧ Step F F' w w' := by
  obtain ⟨R', G, row2, hM2, hR2, hw2, hG, hN⟩ := hW
  obtain ⟨n1, n2, n3, n4, n5⟩ := h.nb
  have eR : R' = R := mapE_inj (by
    obtain ⟨es, c, h1, _, _, h2⟩ := hM2
    obtain ⟨es', c', h1', _, _, h2'⟩ := hR
    rw [h1] at h1'
    cases h1'
    rw [h2, h2'])
  subst eR
  have hbs := hR.lt
  have hb2 := row2.lt
  have ec : crashGo List.length cutB d.safe (keptOf d keep) d.under = crashGo List.length cutB d.safe keep.toNat d.under := crash_min _ _ _
  have ea : (crashSt d keep).1.all = crashGo List.length cutB d.safe keep.toNat d.under := ec
  have es : (crashSt d keep).1.safe = crashGo List.length cutB d.safe keep.toNat d.under := ec
  have hrel : RelG (BlobIn (fun x => G x ∨ x = m) w') R' (crashGo List.length cutB d.safe keep.toNat d.under) := hR2.map fun hb => hb.wr hw (fun x c f hx e => by
    rcases hx with rfl | rfl
    · unfold RowAt at row2
      rw [e] at row2
      cases row2
    · rw [hm] at e
      have := (Array.getElem?_eq_some_iff.1 e).1
      omega) (fun x hx => .inl hx)
  have hsum : lenR R' = sumB (crashGo List.length cutB d.safe keep.toNat d.under) := hrel.sum
  have hall : Wr (fun x => x = b ∨ x = bs) w w' := ⟨hw.os.trans hw2.os, hw.tape.trans hw2.tape, hw.output.trans hw2.output, Nat.le_trans hw2.size hw.size, fun x hx hn => (hw.block x (Nat.lt_of_lt_of_le hx hw2.size) (fun e => by
    rcases e with e | e
    · exact hn (.inl e)
    · have := hw2.size; omega)).trans (hw2.block x hx hn), fun _ h => h.elim⟩
  have hsz := hw2.size
  refine ⟨fun x => G x ∨ x = m, h.make hall (fun x hx _ c t f ht => ?_) (by rw [ea, ← hsum]; exact row) hM (hR.same (hw.block bs hbs (fun e => by rcases e with e | e; exact n2 e; omega))) (World.ownsRow_nil _ _ _ _) (by rw [ea]; exact hrel) (by rw [es]; exact hrel) .nil
    (.inl (hG _ h.fb)) (.inr rfl) (.inl (hG _ h.fs)) (fun g hg => by cases hg) (by omega) (fun x hx => ?_), hall.step (fun x hx => ?_) (fun x hx => ?_)⟩
  · rcases hx with rfl | rfl
    · exact row_ty row ht
    · exact ((hR.same (hw.block x hbs (fun e => by rcases e with e | e; exact n2 e; omega))).nocells ht).elim
  · rcases hx with hx | rfl
    · rcases hN x hx with h1 | ⟨h1, h2, cur, f, h3⟩
      · exact .inl h1
      · have hbw := h.lt b h.fb
        have e := hw.block x h2 (fun e => by rcases e with e | e <;> omega)
        refine .inr ⟨h1, Nat.lt_of_lt_of_le h2 hw.size, fun c t f' ht => ?_⟩
        rw [e, h3] at ht
        cases ht
        exact notcalm (.inr (.inr rfl))
    · exact .inr ⟨by omega, hM.lt, fun c t f ht => (hM.nocells ht).elim⟩
  · rcases hx with rfl | rfl
    · exact h.fb
    · exact h.fs
  · rcases hx with hx | rfl
    · rcases hN x hx with h1 | h1
      · exact .inl h1
      · exact .inr h1.1
    · exact .inr (by omega)
end Go.Proofs.Ytkephcmjigfepaa
