/- Texts behind each other. -/
import Derived.Test.YthjekbbldejlpaaZ26
import Derived.Lib.MinMax
import Derived.Carry
import Derived.Test.YthjekbbldejlpaaIter
import Derived.OwnWalkIn
import Derived.Test.YthjekbbldejlpaaZ03
/- The landed disk: New. -/
set_option linter.unusedVariables false
set_option linter.unusedSimpArgs false
namespace Go.Proofs.Ythjekbbldejlpaa
open Go.ChangeShapes Go.WideShapes Go.ChangeAt Go.RowKit
theorem heap_at_alloc (w : World) (o : Obj) : (w.alloc o).heap[w.heap.size]? = some o := by
  show (w.heap.push o)[w.heap.size]? = _
  simp
theorem new_blocks {w w' : World} {m n : Nat} (hm : m = w.heap.size + 1) (hn : n = w.heap.size + 2) (cs : Array Value) (t : TypeId) (e : w' = ((w.alloc (.map #[] 0)).alloc (.map #[] 0)).alloc (.cells cs t)) :
    MapAt w' w.heap.size [] ∧ MapAt w' m [] ∧ RowAt w' n cs t ∧ w'.heap.size = w.heap.size + 3 ∧ Below w.heap.size w w' := by
  subst hm hn e
  have s1 : (w.alloc (.map #[] 0)).heap.size = w.heap.size + 1 := by simp
  have s2 : ((w.alloc (.map #[] 0)).alloc (.map #[] 0)).heap.size = w.heap.size + 2 := by simp
  have m1 := MapAt.new w
  have m2 := MapAt.new (w.alloc (.map #[] 0))
  rw [s1] at m2
  have r3 := RowAt.new ((w.alloc (.map #[] 0)).alloc (.map #[] 0)) cs t
  rw [s2] at r3
  refine ⟨(m1.keep (al (Below.refl _ _) _)).keep (al (Below.refl _ _) _), m2.keep (al (Below.refl _ _) _), r3, by simp, al (al (al (Below.refl _ _) _) _) _⟩
theorem LD.new {w w' : World} {m n : Nat} (hm : m = w.heap.size + 1) (hn : n = w.heap.size + 2) (room : Int)
    (e : w' = ((w.alloc (.map #[] 0)).alloc (.map #[] 0)).alloc (.cells #[.int .i64 (min (max room 0) 1048576), .map (some w.heap.size), .int .i64 0, .map (some m), .slice none 0 0, .bool false, .int .i64 0] 89)) :
    LD w' (fun x => w.heap.size ≤ x ∧ x < w.heap.size + 3) n w.heap.size m (.slice none 0 0) [] [] [] (newSt room) := by
  obtain ⟨m1, m2, r, hs, hb⟩ := new_blocks hm hn _ _ e
  refine ⟨r, m1, m2, World.ownsRow_nil _ _ _ _, .nil, .nil, .nil, by omega, by omega, by omega, fun g hg => (by cases hg), by omega, fun x hx => by omega, fun x c t f hx ht => ?_⟩
  have h3 : x = w.heap.size ∨ x = m ∨ x = n := by omega
  rcases h3 with rfl | rfl | rfl
  · exact (m1.nocells ht).elim
  · exact (m2.nocells ht).elim
  · unfold RowAt at r
    rw [ht] at r
    simp only [Option.some.injEq, Obj.cells.injEq] at r
    exact notcalm (.inl r.2.1)
theorem b8_new (room : Int) (w : World) (hr : i64 room) : Calls Try.prog 34 #[.int .i64 room] w fun e w' => ∃ p F, e = .returned p ∧ DiskAt w' F p (newSt room) ∧ (∀ b, F b → w.heap.size ≤ b) ∧ Below w.heap.size w w' := by
  have hmm := @run_makeMap Try.prog
  obtain ⟨M, hM⟩ : ∃ M, min (max room 0) 1048576 = M := ⟨_, rfl⟩
  have hL := fun (w' : World) (m n : Nat) (hm : m = w.heap.size + 1) (hn : n = w.heap.size + 2) (e : w' = _) => LD.new (w := w) (w' := w') (m := m) (n := n) hm hn room e
  rw [hM] at hL
  have HL := Lib.hid hL
  clear hL
  go_enter Try.func34, Try.ntmps34
  go_wp2
  go_ret
  have hL := HL.out _ (w.heap.size + 1) _ rfl rfl rfl
  exact ⟨_, _, rfl, ⟨_, _, _, _, _, _, _, rfl, hL⟩, fun b hb => hb.1, al (al (al (Below.refl _ _) _) _) _⟩
end Go.Proofs.Ythjekbbldejlpaa
/- The landed disk: words of whole states; Sync, Get, Keys. -/
set_option linter.unusedVariables false
set_option linter.unusedSimpArgs false
namespace Go.Proofs.Ythjekbbldejlpaa
open Go.ChangeShapes Go.WideShapes Go.ChangeAt Go.RowKit
theorem LD.make {w w' : World} {F F' X : Foot} {b bl bs bl' : Nat} {vw vw' : Value} {RL RS RW RL' RS' RW' : List Raw} {d d' : St} (h : LD w F b bl bs vw RL RS RW d) (hw : Wr X w w')
    (hX : ∀ x, X x → F' x → ∀ c t f, w'.heap[x]? = some (Obj.cells c t f) → ¬ calmT t)
    (row' : RowAt w' b #[.int .i64 d'.room, .map (some bl'), .int .i64 (sumB d'.all), .map (some bs), vw', .bool (decide (0 < d'.wait)), .int .i64 d'.fails] 89)
    (ml' : MapAt w' bl' RL') (ms' : MapAt w' bs RS') (way' : w'.ownsRow 0 91 2 vw' RW'.length (rawVs RW')) (rl' : RelG (BlobIn F' w') RL' d'.all) (rs' : RelG (BlobIn F' w') RS' d'.safe) (ru' : RelG (BlobIn F' w') RW' d'.under)
    (fb : F' b) (fl : F' bl') (fs : F' bs) (fw : ∀ g, vw'.ownBlock = some g → F' g) (ne : bl' ≠ bs)
    (hN : ∀ x, F' x → F x ∨ (w.heap.size ≤ x ∧ x < w'.heap.size ∧ ∀ c t f, w'.heap[x]? = some (Obj.cells c t f) → ¬ calmT t)) : LD w' F' b bl' bs vw' RL' RS' RW' d' := by
  refine ⟨row', ml', ms', way', rl', rs', ru', fb, fl, fs, fw, ne, fun x hx => ?_, fun x c t f hx ht => ?_⟩
  · rcases hN x hx with h1 | h1
    · exact Nat.lt_of_lt_of_le (h.lt x h1) hw.size
    · exact h1.2.1
  · by_cases hXx : X x
    · exact hX x hXx hx c t f ht
    · rcases hN x hx with h1 | h1
      · exact h.ty x c t f h1 ((hw.block x (h.lt x h1) hXx).symm.trans ht)
      · exact h1.2.2 c t f ht
section
variable {w w' : World} {F : Foot} {b bl bs : Nat} {vw : Value} {RL RS RW : List Raw} {d d' : St}
theorem row_ty {w : World} {b : Nat} {cs : Array Value} (r : RowAt w b cs 89) {c : Array Value} {t : TypeId} {f : Nat × Nat} (h : w.heap[b]? = some (Obj.cells c t f)) : ¬ calmT t := by
  unfold RowAt at r
  rw [h] at r
  simp only [Option.some.injEq, Obj.cells.injEq] at r
  exact notcalm (.inl r.2.1)
/-- Its row alone is written. -/
theorem LD.turn (h : LD w F b bl bs vw RL RS RW d) (hw : Wr (fun x => x = b) w w') (r : RowAt w' b #[.int .i64 d'.room, .map (some bl), .int .i64 (sumB d.all), .map (some bs), vw, .bool (decide (0 < d'.wait)), .int .i64 d'.fails] 89)
    (e1 : d'.safe = d.safe) (e2 : d'.under = d.under) : LD w' F b bl bs vw RL RS RW d' := by
  obtain ⟨n1, n2, n3, n4, n5⟩ := h.nb
  have ea : d'.all = d.all := by unfold St.all; rw [e1, e2]
  have hB : ∀ {v : Value} {B : List Int}, BlobIn F w v B → BlobIn F w' v B := fun hb => hb.wr hw (fun x c f hx => h.off x c f (.inl hx)) (fun _ h => h)
  refine h.make hw (fun x hx _ c t f ht => by cases hx; exact row_ty r ht) (by rw [ea]; exact r) (h.ml.same (hw.block bl h.ml.lt n1)) (h.ms.same (hw.block bs h.ms.lt n2)) (hw.own h.way (fun g hg e => n3 (by rw [hg, e]))) (by rw [ea]; exact h.rl.map hB) (by rw [e1]; exact h.rs.map hB) (by rw [e2]; exact h.ru.map hB)
    h.fb h.fl h.fs h.fw h.ne (fun x hx => .inl hx)
theorem LD.keep (h : LD w F b bl bs vw RL RS RW d) (hb : Below w.heap.size w w') : LD w' F b bl bs vw RL RS RW d := h.same fun x hx => hb.block x (h.lt x hx)
theorem LD.lenW (h : LD w F b bl bs vw RL RS RW d) : lenR RW = sumB d.under := h.ru.sum
/-- Behind a sync. -/
theorem LD.synced (h : LD w F b bl bs vw RL RS RW d) (hW : WroteTo w w' F b bl bs d.safe d.under #[.int .i64 d.room, .map (some bl), .int .i64 (sumB d.all), .map (some bs), .slice none 0 0, .bool (decide (0 < d.wait)), .int .i64 d.fails] (sumB d.under)) :
    ∃ R G, LD w' G b bl bs (.slice none 0 0) RL R [] { d with safe := d.all, under := [] } ∧ Step F G w w' := by
  obtain ⟨n1, n2, n3, n4, n5⟩ := h.nb
  obtain ⟨R, G, row, hM, hR, hw, hG, hN⟩ := hW
  rw [crash_full _ _ _ (Nat.le_refl _)] at hR
  have ea : ({ d with safe := d.all, under := [] } : St).all = d.all := rfl
  refine ⟨R, G, ?_, hw.step (fun x hx => ?_) (fun x hx => (hN x hx).imp_right (·.1))⟩
  · refine h.make hw (fun x hx _ c t f ht => ?_) row (h.ml.same (hw.block bl h.ml.lt (fun e => e.elim n1 h.ne))) hM (World.ownsRow_nil _ _ _ _) (h.rl.map fun hb => hb.wr hw (fun x c f hx => h.off x c f (by rcases hx with hx | hx; exact .inl hx; exact .inr (.inr (.inl hx)))) hG) hR .nil
      (hG _ h.fb) (hG _ h.fl) (hG _ h.fs) (fun g hg => by cases hg) h.ne (fun x hx => (hN x hx).imp_right fun ⟨h1, h2, cur, f, h3⟩ => ⟨h1, h2, fun c t f' ht => by rw [h3] at ht; cases ht; exact notcalm (.inr (.inr rfl))⟩)
    rcases hx with rfl | rfl
    · exact row_ty row ht
    · exact (hM.nocells ht).elim
  · rcases hx with rfl | rfl
    · exact h.fb
    · exact h.fs
end
theorem DiskAt.step {w w' : World} {F : Foot} {b : Nat} (hw : Wr (fun x => x = b) w w') (hb : F b) : Step F F w w' := hw.step (fun x hx => by cases hx; exact hb) (fun x hx => .inl hx)
set_option maxRecDepth 10000 in
set_option maxHeartbeats 4000000 in
theorem b8_sync (w : World) (F : Foot) (p : Value) (d : St) (n m : Nat) (hA : DiskAt w F p d) (ok : StOk d n m) (hn : n ≤ 30000) (hm : m ≤ 50000000) :
    Calls Try.prog 37 #[p] w fun e w' => ∃ F', e = .returned (.int .i64 (syncSt d).2) ∧ DiskAt w' F' p (syncSt d).1 ∧ Step F F' w w' := by
  obtain ⟨b, bl, bs, vw, RL, RS, RW, rfl, h⟩ := hA
  have hf := ok.fails
  have ok2 := ok.asked
  have hlen := ok.len
  have hsum := ok.sum
  have e1 := b8_failing w b _ _ _ _ _ d.fails d.wait ⟨hf.1, by omega⟩ h.row
  have hLD := fun (w1 : World) (r : RowAt w1 b _ _) (hw : Wr (fun x => x = b) w w1) => h.turn (d' := d.asked) hw r rfl rfl
  have hfb := h.fb
  have hG : ∀ {w1 : World}, Wr (fun x => x = b) w w1 → Step F F w w1 := fun hw => DiskAt.step hw hfb
  unfold syncSt
  unfold St.falls
  cases hfa : (askF d.fails d.wait).2
  · rw [hfa] at e1
    rw [if_neg (by simp)]
    have E1 := Lib.hid e1
    have LDH := Lib.hid hLD
    have OK2 := Lib.hid ok2
    have H := Lib.hid h
    have HG := Lib.hid (fun (w1 : World) (k : Wr (fun x => x = b) w w1) => hG k)
    clear e1 hLD ok2 h hfa ok hG
    go_enter Try.func37, Try.ntmps37
    go_wp2_with fail
    (refine (E1.out).mono ?_; rintro e w1 ⟨rfl, r1, k1⟩)
    have h1 := LDH.out w1 r1 k1
    have hL := b8_left w1 b _ _ _ _ _ _ _ RW h1.row h1.way (h1.ru.ok OK2.out.ru) (by have := h1.ru.len; have e : d.asked.under = d.under := rfl; rw [e] at this; omega) (by have := h1.lenW; have e : d.asked.under = d.under := rfl; rw [e] at this; omega)
    have hu := h1.lenW
    rw [hu] at hL
    have HL := Lib.hid hL
    have H1 := Lib.hid h1
    have K1 := Lib.hid k1
    clear r1 k1 hL h1 hu
    go_wp2_with fail
    (refine (HL.out).mono ?_; rintro e w2 ⟨rfl, k2⟩)
    have h2 := H1.out.keep k2
    have hW := b8_write w2 F b bl bs vw RL RS RW d.asked n m h2 OK2.out hn hm (sumB d.asked.under) (by have e : d.asked.under = d.under := rfl; rw [e]; omega)
    have HW := Lib.hid hW
    have H2 := Lib.hid h2
    have K2 := Lib.hid k2
    clear k2 h2 hW
    go_wp2_with fail
    (refine (HW.out).mono ?_; rintro e w3 ⟨⟨v3, rfl⟩, hw3⟩)
    obtain ⟨R, G, h3, s3⟩ := H2.out.synced hw3
    have S3 := Lib.hid s3
    have H3 := Lib.hid h3
    clear s3 h3 hw3
    go_wp2
    go_ret
    exact ⟨G, rfl, ⟨b, bl, bs, _, RL, R, [], rfl, H3.out⟩, ((HG.out _ K1.out).trans (Step.of K2.out)).trans S3.out⟩
  · rw [hfa] at e1
    rw [if_pos rfl]
    have E1 := Lib.hid e1
    have LDH := Lib.hid hLD
    have HG := Lib.hid (fun (w1 : World) (k : Wr (fun x => x = b) w w1) => hG k)
    clear e1 hLD ok2 h hfa ok hG
    go_enter Try.func37, Try.ntmps37
    go_wp2_with fail
    (refine (E1.out).mono ?_; rintro e w1 ⟨rfl, r1, k1⟩)
    have h1 := Lib.hid (LDH.out w1 r1 k1)
    have s1 := Lib.hid (HG.out w1 k1)
    clear r1 k1
    go_wp2
    go_ret
    exact ⟨F, rfl, ⟨b, bl, bs, vw, RL, RS, RW, rfl, h1.out⟩, s1.out⟩
end Go.Proofs.Ythjekbbldejlpaa
/- The landed disk: Get, Keys. -/
set_option linter.unusedVariables false
set_option linter.unusedSimpArgs false
namespace Go.Proofs.Ythjekbbldejlpaa
open Go.ChangeShapes Go.WideShapes Go.ChangeAt Go.RowKit
set_option maxRecDepth 10000 in
set_option maxHeartbeats 4000000 in
theorem b8_get (w : World) (F : Foot) (p : Value) (d : St) (k : Int) (n m : Nat) (hA : DiskAt w F p d) (ok : StOk d n m) (hn : n ≤ 30000) (hm : m ≤ 50000000) (hk : i64 k) :
    Calls Try.prog 50 #[p, .int .i64 k] w fun e w' => ∃ vb, e = .returned (.tuple #[vb, .bool (getSt d k).2]) ∧ w'.ownsRow w.heap.size 5 1 vb (getSt d k).1.length (bytVs (getSt d k).1) ∧ Below w.heap.size w w' := by
  obtain ⟨b, bl, bs, vw, RL, RS, RW, rfl, h⟩ := hA
  have look := h.ml.look2 hk
  have r := h.row
  have zb := r.lt
  have e1 : w.cell? ⟨b, 1, none⟩ = some (.map (some bl)) := by rw [r.cell]; rfl
  have hsum : sumB d.all ≤ 50000000 := by
    have h1 := nowF_sum d.under d.safe
    have h2 := ok.sum
    unfold St.all
    omega
  unfold getSt
  rcases h.rl.get (k := k) with ⟨g1, g2⟩ | ⟨v, B, g1, g2, hB⟩
  · rw [g1] at look
    rw [g2]
    have look : (Instr.lookup 86 (.map (some bl)) (.int .i64 k) true).run Try.prog w = .ok (.tuple #[.slice none 0 0, .bool false]) w := look
    clear g1 g2 h r hsum ok
    go_enter Try.func50, Try.ntmps50
    go_wp2_with fail
    (refine (Try.bytes_Clone_nil _ _ w).mono ?_; rintro e w1 ⟨rfl, rfl⟩)
    go_wp2
    go_ret2
    exact ⟨_, rfl, World.ownsRow_nil _ _ _ _, Below.refl _ _⟩
  · rw [g1] at look
    rw [g2]
    have look : (Instr.lookup 86 (.map (some bl)) (.int .i64 k) true).run Try.prog w = .ok (.tuple #[v, .bool true]) w := look
    have hBl : B.length ≤ 1000000000 := by
      have hm2 : ∀ (l : Blobs), getF l k = some B → B.length ≤ sumB l := fun l hl => by
        have hq := getF_in hl
        clear hl
        induction l with
        | nil => cases hq
        | cons x l ih =>
          rw [sumB]
          rcases List.mem_cons.1 hq with rfl | hq
          · simp only []; omega
          · have := ih hq; omega
      have := hm2 _ g2
      omega
    obtain ⟨q, c, rfl⟩ := hB.1.shape
    have hc := b8_clone _ B w hB.1 hBl
    have HC := Lib.hid hc
    clear g1 g2 h r hsum ok hc hB hBl
    show Calls _ _ _ _ fun e w' => ∃ vb, e = .returned (.tuple #[vb, .bool true]) ∧ w'.ownsRow w.heap.size 5 1 vb B.length (bytVs B) ∧ Below w.heap.size w w'
    go_enter Try.func50, Try.ntmps50
    go_wp2_with fail
    (refine (HC.out).mono ?_; rintro e w1 ⟨v1, rfl, ho, hb⟩)
    have HO := Lib.hid ho
    have HB := Lib.hid hb
    clear ho hb
    go_wp2
    go_ret2
    exact ⟨_, rfl, HO.out, HB.out⟩
theorem keys_sorted {l : List Raw} (hs : Srt l) {ss : List Int} (hp : ss.Perm (l.map (·.1))) : ss.mergeSort (fun x y => decide (x ≤ y)) = l.map (·.1) := by
  refine List.Perm.eq_of_pairwise (le := fun a b => decide (a ≤ b) = true) (fun a b _ _ h1 h2 => by simp only [decide_eq_true_eq] at h1 h2; omega) (List.pairwise_mergeSort (fun a b c h1 h2 => by simp only [decide_eq_true_eq] at *; omega) (fun a b => by simp only [Bool.or_eq_true, decide_eq_true_eq]; omega) ss) ?_ ((List.mergeSort_perm ss _).trans hp)
  refine List.pairwise_map.2 (hs.imp fun {a b} h => ?_)
  simp only [decide_eq_true_eq]
  omega
theorem rel_keys {R : Value → List Int → Prop} {rs : List Raw} {bs : Blobs} (h : RelG R rs bs) : rs.map (·.1) = bs.map (·.1) := by
  induction h with
  | nil => rfl
  | cons hx _ ih => simp only [List.map_cons, hx.1, ih]
open Go.Maps Go.Sort Go.Shelf in
theorem b8_sorts (m : Nat) : AnyZI.SortsIn Try.prog Try.sortedI70_ren Fence.wide m :=
  ⟨fun blk off cap ss W hH hblk hsz => callsIn_wide.2 (Try.slices_Sort_int blk off cap ss W hH hblk hsz), fun p cap W => callsIn_wide.2 (Try.slices_Sort_int_none p cap W)⟩
open Go.Maps Go.Sort Go.Shelf in
set_option maxRecDepth 10000 in
set_option maxHeartbeats 4000000 in
theorem b8_keys (w : World) (F : Foot) (p : Value) (d : St) (n m : Nat) (hA : DiskAt w F p d) (ok : StOk d n m) (hn : n ≤ 30000) (hm : m ≤ 50000000) :
    Calls Try.prog 64 #[p] w fun e w' => ∃ v, e = .returned v ∧ IntsAt w' v (d.all.map (·.1)) ∧ Below w.heap.size w w' := by
  obtain ⟨b, bl, bs, vw, RL, RS, RW, rfl, h⟩ := hA
  have r := h.row
  have zb := r.lt
  have e1 : w.cell? ⟨b, 1, none⟩ = some (.map (some bl)) := by rw [r.cell]; rfl
  have srt : Srt RL := rel_srt h.rl ok.srt.now
  have hk := rel_keys h.rl
  have hown : w.ownsMap Try.prog 3 slR bl RL.length (mapE RL) := h.ml
  have hlen : RL.length ≤ 30000 := by
    rw [h.rl.len]
    have h1 := all_len d
    have h2 := ok.len
    omega
  have hmax : Maps.size (mapE RL) ≤ maxLen := by rw [mapE_size]; simp only [maxLen]; omega
  have hbytes : Maps.size (mapE RL) * 8 ≤ 140737488355328 := by rw [mapE_size]; omega
  have hbl := h.ml.lt
  have KS := Lib.hid (fun ss => keys_sorted srt (ss := ss))
  have HK := Lib.hid hk
  clear hk srt hlen h r ok
  refine (callsIn_wide (n := 6)).1 ?_
  have hseq : SeqGives Fence.wide 2 Try.prog 75 #[.pointer (some ⟨w.heap.size, 0, none⟩)] encZ (fun ss => ss.Perm (intKeys (mapE RL))) (Maps.size (mapE RL)) (w.alloc (.cells #[.map (some bl)] 86)) :=
    AnyZI.keys_gives (ρ := Try.keysI71_ren) { Try.keysI71 with } Fence.wide _ trivial rfl (by omega) w.heap.size bl RL.length (mapE RL) _ (by simp) (by simp) (by
      obtain ⟨es, clock, hb, Ft, hs, hD⟩ := hown
      exact ⟨es, clock, (Below.heap_alloc _ _ bl hbl).trans hb, Ft, hs, hD⟩)
  have cK : ∀ mb W, CallsIn Fence.wide 5 Try.prog 71 #[.map mb] W fun e w' => e = .returned (.func (.func 75) #[] #[.pointer (some ⟨W.heap.size, 0, none⟩)]) ∧ w' = W.alloc (.cells #[.map mb] 86) := fun mb W => AnyZI.keys_in Try.keysI71 Fence.wide 5 trivial rfl mb W
  have cS := AnyZI.sorted_in Try.sortedI70 Fence.wide 5 trivial trivial trivial trivial rfl (by omega) (b8_sorts _) (enters_of Try.func74 (by kernel_rfl) rfl) 75 #[.pointer (some ⟨w.heap.size, 0, none⟩)] trivial (enters_of Try.func75 (by kernel_rfl) rfl) _ _ hmax hbytes _ hseq
  change CallsIn _ _ Try.prog 70 _ _ _ at cS
  have hfK : Fence.wide.fn 71 := trivial
  have hfS : Fence.wide.fn 70 := trivial
  clear hown hmax hbytes hseq
  refine callsIn_of_wp Try.func64 rfl trivial ?_ rfl
  simp only [Try.ntmps64, List.size_toArray, List.length_cons, List.length_nil, Nat.reduceAdd, Nat.reduceSub, Array.replicate_succ, Array.replicate_zero, List.push_toArray, List.append_toArray, List.nil_append, List.cons_append]
  gi_wp2_with (first
    | (gi_at_call 71; refine (cK _ _).mono ?_; rintro e w' ⟨rfl, rfl⟩)
    | (gi_at_call 70; refine cS.mono ?_; rintro e w' ⟨v, ss, rfl, hS, hrow, hnil, hb⟩))
  go_ret
  rw [mapE_keys] at hS
  have e := KS.out ss hS
  rw [e, HK.out] at hrow
  have hl : ss.length = (d.all.map (·.1)).length := by rw [← HK.out]; exact hS.length_eq
  rw [hl] at hrow
  exact ⟨v, rfl, ints_of_owned hrow, ((Below.refl _ w).alloc (Nat.le_refl _) _).trans (hb.mono (by simp))⟩
end Go.Proofs.Ythjekbbldejlpaa
/- Where an append's row lies. No program. -/
set_option linter.unusedVariables false
set_option linter.unusedSimpArgs false
namespace Go.Proofs.Ythjekbbldejlpaa
open Go Go.RowKit
/-- Where an append's row lies: where it lay, or in a new block. -/
theorem run_append_fresh {P : Program} (w : World) (base : Nat) (t ty e : TypeId) (i : TypeInfo) (z : Value) (ht : P.underlying t = some (.slice e)) (hi : P.info? e = some i) (hz : i.zero = some z)
    (v : Value) (n : Nat) (xs : List Value) (hown : w.ownsRow base e i.size v n xs) (a : Addr) (m c : Nat) (news : List Value) (hl : news.length = m * i.size) (hnews : ∀ j u, news[j]? = some u → w.cell? (a.add j) = some u) (h1 : ∀ u ∈ news, u.oneCell' = true)
    (h63 : n + m ≤ maxLen) (hbytes : (n + m) * i.bytes ≤ 140737488355328) (hm : 0 < m) :
    ∃ v' w', (Builtin.append_ #[t, t] ty #[v, .slice (some a) m c]).run P w = .ok v' w' ∧ (v'.ownBlock = v.ownBlock ∨ v'.ownBlock = some w.heap.size) := by
  have hsmall : n + m ≤ 9223372036854775807 := by simp only [maxLen] at h63; omega
  rcases hown.2 with ⟨rfl, rfl⟩ | ⟨g, cap, cur, rfl, hbg, hg, hnc, hcm, hcs, htake⟩
  · exact ⟨_, _, run_append_nil (P := P) w t ty e i z ht hi hz a m c news hl hnews hm (by omega) (by rw [Nat.zero_add] at hbytes; omega), .inr rfl⟩
  · by_cases hroom : n + m ≤ cap
    · exact ⟨_, _, run_append_room (P := P) w t ty e i ht hi g n cap cur hg a m c news hl hnews h1 hroom (by rw [hl, hcs, ← Nat.add_mul]; exact Nat.mul_le_mul_right _ hroom), .inl rfl⟩
    · exact ⟨_, _, run_append_grow (P := P) w t ty e i z ht hi hz ⟨g, 0, none⟩ n cap xs hown.1 (hown.cells (g := g) rfl) a m c news hl hnews (by omega) (by omega) (growslice_fits (by omega) hbytes), .inr rfl⟩
end Go.Proofs.Ythjekbbldejlpaa
/- The landed disk: Put. -/
set_option linter.unusedVariables false
set_option linter.unusedSimpArgs false
namespace Go.Proofs.Ythjekbbldejlpaa
open Go.ChangeShapes Go.WideShapes Go.ChangeAt Go.RowKit
/-- One blob more at the end of a row that is owned, and where the row lies then. -/
theorem app_raw_fresh {P : Program} {ops : Array Oper} {rest : List Oper} {o : Oper} {a : Act} {Q : Exit → Act → World → Prop} (w : World) (hgd : o.guard = none) (s x : Operand) (t : TypeId) (ho : o.op = .call { callee := .builtin .append, args := #[s, x], argTypes := #[t, t] }) (base : Nat) (e : TypeId) (i : TypeInfo) (z : Value)
    (ht : P.underlying t = some (.slice e)) (hi : P.info? e = some i) (hz : i.zero = some z) (hsize : i.size = 2) (hby : i.bytes = 32) (hzs : z.cells.size = 2)
    (v : Value) (n : Nat) (xs : List Value) (hs : a.eval s = v) (hown : w.ownsRow base e 2 v n xs) (g : Nat) (c d : Value) (hx : a.eval x = .slice (some ⟨g, 0, none⟩) 1 1) (hc : w.cell? ⟨g, 0, none⟩ = some c) (hd : w.cell? ⟨g, 1, none⟩ = some d)
    (h1 : c.oneCell' = true) (h2 : d.oneCell' = true) (hN : n ≤ 1000000) (hbase : base ≤ w.heap.size)
    (h : ∀ v' w', w'.ownsRow base e 2 v' (n + 1) (xs ++ [c, d]) → w.grownBy w' v.ownBlock → (v'.ownBlock = v.ownBlock ∨ v'.ownBlock = some w.heap.size) → wpList P ops Q rest (a.put o.dst v') w') : wpList P ops Q (o :: rest) a w :=
  wpList_plain hgd fun K hK => by
    have hnews : ∀ j u, [c, d][j]? = some u → w.cell? ((⟨g, 0, none⟩ : Addr).add j) = some u := fun j u hu => by
      match j, hu with
      | 0, hu => simp at hu; subst hu; simpa [Addr.add] using hc
      | 1, hu => simp at hu; subst hu; simpa [Addr.add] using hd
      | j + 2, hu => simp at hu
    have h12 : ∀ u ∈ [c, d], u.oneCell' = true := fun u hu => by
      simp at hu
      rcases hu with rfl | rfl
      · exact h1
      · exact h2
    obtain ⟨v', w', hr, k2, k3, _⟩ := run_append_own (P := P) w base t o.type e i z 2 32 ht hi hz hsize hby hzs (by omega) v n xs hown ⟨g, 0, none⟩ 1 1 [c, d] rfl hnews h12 (by simp only [maxLen]; omega) (by omega) hbase
    obtain ⟨v2, w2, hr2, k5⟩ := run_append_fresh (P := P) w base t o.type e i z ht hi hz v n xs (by rw [hsize]; exact hown) ⟨g, 0, none⟩ 1 1 [c, d] (by rw [hsize]; rfl) hnews h12 (by simp only [maxLen]; omega) (by rw [hby]; omega) (by omega)
    rw [hr] at hr2
    cases hr2
    unfold Oper.wp execOp
    simp only [ho, resolve, invoke, builtin, Sem.run_bind, Sem.run_pure, Result.andThen_ok, List.map_toArray, List.map_cons, List.map_nil, hs, hx, hr]
    exact hK _ _ (h v' w' k2 k3 k5)
theorem sumB_ins {k : Int} {B : List Int} : ∀ {l : Blobs}, Srt l → sumB (insF l (k, B)) + ((getF l k).getD []).length = sumB l + B.length
  | [], _ => by simp [insF, getF, sumB]
  | x :: l, h => by
    obtain ⟨h1, h2⟩ := List.pairwise_cons.1 h
    rw [insF, getF]
    by_cases c : k ≤ x.1
    · rw [if_pos c]
      by_cases c2 : x.1 = k
      · rw [if_pos c2, if_pos c2]; simp only [sumB, Option.getD_some]; omega
      · have hn : getF l k = none := getF_none fun i hi => by
          have := h1 l[i] (List.getElem_mem hi)
          omega
        rw [if_neg c2, if_neg c2, hn]; simp only [sumB, Option.getD_none, List.length_nil]; omega
    · have c2 : ¬ x.1 = k := by omega
      rw [if_neg c, if_neg c2]
      have := sumB_ins (k := k) (B := B) h2
      simp only [sumB]; omega
theorem getF_le {k : Int} : ∀ {l : Blobs}, ((getF l k).getD []).length ≤ sumB l
  | [] => by simp [getF, sumB]
  | x :: l => by
    rw [getF]
    split
    · simp only [sumB, Option.getD_some]; omega
    · have := getF_le (k := k) (l := l)
      simp only [sumB]; omega
theorem put_info : ∃ i, Try.prog.info? 91 = some i ∧ i.zero = some (.agg #[.int .i64 0, .slice none 0 0]) ∧ i.size = 2 ∧ i.bytes = 32 := by
  obtain ⟨i, hi⟩ : ∃ i, Try.prog.info? 91 = some i := Option.isSome_iff_exists.1 (by kernel_rfl)
  have h : (Try.prog.info? 91).map (fun i => (i.zero, i.size, i.bytes)) = some (some (.agg #[.int .i64 0, .slice none 0 0]), 2, 32) := by kernel_rfl
  rw [hi] at h
  simp at h
  exact ⟨i, hi, h.1, h.2.1, h.2.2⟩
theorem exec_look {o : Oper} {a : Act} {u : World} {b : Nat} {S : List Raw} {k : Int} {v : Value} (m x : Operand) (ho : o.op = .lookup 86 m x false) (hm : a.eval m = .map (some b)) (hx : a.eval x = .int .i64 k) (h : MapAt u b S) (hk : i64 k) (hv : (getF S k).getD (.slice none 0 0) = v) :
    (execOp a.eval o).run Try.prog u = .ok (.value v) u := by
  have := h.look hk
  rw [hv] at this
  simp [execOp, ho, hm, hx, this, Result.andThen]
theorem wp_estore {ops : Array Oper} {rest : List Oper} {o : Oper} {a : Act} {Q : Exit → Act → World → Prop} (w w2 : World) (hg : o.guard = none) (m s x : Operand) (hop : o.op = Op.entryStore 86 m s x) (b st : Nat) (y : Value) (hm : a.eval m = .map (some b)) (hs : a.eval s = goInt st) (hv : a.eval x = y)
    (hrun : (Instr.entryStore 86 (.map (some b)) (goInt st) y).run Try.prog w = .ok () w2) (hK : wpList Try.prog ops Q rest (a.put o.dst undef) w2) : wpList Try.prog ops Q (o :: rest) a w := by
  refine wpList_plain hg fun K' hK' => ?_
  unfold Oper.wp
  simp [execOp, hop, hm, hs, hv, hrun, Result.andThen]
  exact hK' _ _ hK
/-- A row of bytes stays when the disk's own row is written. -/
theorem byts_turn {w w' : World} {b : Nat} {v : Value} {B : List Int} {i0 i2 i6 : Int} {m1 m3 : Option Nat} {p : Option Addr} {n c : Nat} {s : Bool} {t : TypeId} (h : BytsAt w v B) (r : RowAt w b #[.int .i64 i0, .map m1, .int .i64 i2, .map m3, .slice p n c, .bool s, .int .i64 i6] t) (hw : Wr (fun x => x = b) w w') : BytsAt w' v B := by
  rcases h with h | ⟨g, off, cap, e, hc, hg, hx⟩
  · exact .inl h
  · rcases Nat.eq_zero_or_pos B.length with h0 | h0
    · obtain rfl := List.length_eq_zero_iff.1 h0
      exact .inl ⟨⟨_, _, e⟩, rfl⟩
    · have hne : g ≠ b := by
        rintro rfl
        have h1 := hx 0 h0
        rw [r.cell] at h1
        revert h1
        generalize B[0] = x0
        match off + 0 with
        | 0 => intro h1; simp at h1
        | 1 => intro h1; simp at h1
        | 2 => intro h1; simp at h1
        | 3 => intro h1; simp at h1
        | 4 => intro h1; simp at h1
        | 5 => intro h1; simp at h1
        | 6 => intro h1; simp at h1
        | q + 7 => intro h1; simp at h1
      have e2 := hw.block g hg hne
      exact .inr ⟨g, off, cap, e, hc, Nat.lt_of_lt_of_le hg hw.size, fun j hj => (World.cell?_of_block (a := ⟨g, off + j, none⟩) e2).trans (hx j hj)⟩
/-- Behind a put. -/
theorem LD.putted {w w' : World} {F : Foot} {b bl bs : Nat} {vw v2 v3 : Value} {RL RS RW : List Raw} {d : St} {k : Int} {B : List Int} (h : LD w F b bl bs vw RL RS RW d) (srt : Srt d.all)
    (hw : Wr (fun x => x = b ∨ x = bl ∨ vw.ownBlock = some x) w w')
    (row' : RowAt w' b #[.int .i64 d.room, .map (some bl), .int .i64 (sumB (layF d.all (k, B))), .map (some bs), v3, .bool (decide (0 < d.wait)), .int .i64 d.fails] 89)
    (ml' : MapAt w' bl (insF RL (k, v2))) (way' : w'.ownsRow 0 91 2 v3 (RW.length + 1) (rawVs RW ++ [.int .i64 k, v2])) (hv2 : w'.ownsRow w.heap.size 5 1 v2 B.length (bytVs B))
    (h3 : v3.ownBlock = vw.ownBlock ∨ ∀ g, v3.ownBlock = some g → w.heap.size ≤ g) :
    ∃ F', LD w' F' b bl bs v3 (insF RL (k, v2)) RS (RW ++ [(k, v2)]) { d with under := d.under ++ [(k, B)] } ∧ Step F F' w w' := by
  obtain ⟨n1, n2, n3, n4, n5⟩ := h.nb
  have ea : ({ d with under := d.under ++ [(k, B)] } : St).all = layF d.all (k, B) := nowF_snoc _ _ _
  have sR : Srt RL := rel_srt h.rl srt
  have w3T : ∀ g, v3.ownBlock = some g → ∃ cur, w'.heap[g]? = some (Obj.cells cur 91 (0, 0)) := fun g hg => by
    rcases way'.2 with ⟨rfl, _⟩ | ⟨g', cap, cur, rfl, _, ht, _⟩
    · cases hg
    · cases hg; exact ⟨cur, ht⟩
  have w2T : ∀ g, v2.ownBlock = some g → ∃ cur, w'.heap[g]? = some (Obj.cells cur 5 (0, 0)) := fun g hg => by
    rcases hv2.2 with ⟨rfl, _⟩ | ⟨g', cap, cur, rfl, _, ht, _⟩
    · cases hg
    · cases hg; exact ⟨cur, ht⟩
  have hB : ∀ {v : Value} {B' : List Int}, BlobIn F w v B' → BlobIn (fun x => (F x ∧ vw.ownBlock ≠ some x) ∨ v3.ownBlock = some x ∨ v2.ownBlock = some x) w' v B' := fun hb =>
    hb.turn (fun g cur f hg ht => hw.block g (h.lt g hg) (fun hx => h.off g cur f (by rcases hx with hx | hx | hx; exact .inl hx; exact .inr (.inl hx); exact .inr (.inr (.inr hx))) ht))
      (fun g cur f hg ht => .inl ⟨hg, fun e => h.off g cur f (.inr (.inr (.inr e))) ht⟩)
  refine ⟨_, h.make hw (fun x hx hF c t f ht => ?_) (by rw [ea]; exact row') ml' (h.ms.same (hw.block bs h.ms.lt (fun e => by rcases e with e | e | e; exact n2 e; exact h.ne e.symm; exact n5 e))) (by rw [List.length_append, rawVs_snoc]; exact way') ?_ (h.rs.map hB) (rel_append (h.ru.map hB) (rel_one ?_))
    (.inl ⟨h.fb, n3⟩) (.inl ⟨h.fl, n4⟩) (.inl ⟨h.fs, n5⟩) (fun g hg => .inr (.inl hg)) h.ne (fun x hx => ?_), hw.step (fun x hx => ?_) (fun x hx => ?_)⟩
  · rcases hx with rfl | rfl | hx
    · exact row_ty row' ht
    · exact (ml'.nocells ht).elim
    · rcases hF with hF | hF | hF
      · exact absurd hx hF.2
      · obtain ⟨cur, h2⟩ := w3T x hF
        rw [h2] at ht; cases ht
        exact notcalm (.inr (.inl rfl))
      · have h1 := h.lt x (h.fw x hx)
        have h2 := (hv2.lt x hF).1
        omega
  · rw [ea, ← layF_ins _ sR]
    exact (h.rl.map hB).lay (BlobIn.owned hv2 fun g hg => .inr (.inr hg))
  · exact BlobIn.owned hv2 fun g hg => .inr (.inr hg)
  · rcases hx with hx | hx | hx
    · exact .inl hx.1
    · rcases h3 with h3 | h3
      · exact .inl (h.fw x (h3 ▸ hx))
      · refine .inr ⟨h3 x hx, (way'.lt x hx).2, fun c t f ht => ?_⟩
        obtain ⟨cur, h2⟩ := w3T x hx
        rw [h2] at ht; cases ht
        exact notcalm (.inr (.inl rfl))
    · refine .inr ⟨(hv2.lt x hx).1, (hv2.lt x hx).2, fun c t f ht => ?_⟩
      obtain ⟨cur, h2⟩ := w2T x hx
      rw [h2] at ht; cases ht
      exact notcalm (.inr (.inr rfl))
  · rcases hx with rfl | rfl | hx
    · exact h.fb
    · exact h.fl
    · exact h.fw x hx
  · rcases hx with hx | hx | hx
    · exact .inl hx.1
    · rcases h3 with h3 | h3
      · exact .inl (h.fw x (h3 ▸ hx))
      · exact .inr (h3 x hx)
    · exact .inr (hv2.lt x hx).1
end Go.Proofs.Ythjekbbldejlpaa
