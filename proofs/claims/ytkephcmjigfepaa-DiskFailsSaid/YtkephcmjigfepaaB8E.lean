/- The landed disk: Get, Keys. -/
import Derived.Test.YtkephcmjigfepaaB8D
set_option linter.unusedVariables false
set_option linter.unusedSimpArgs false
namespace Go.Proofs.Ytkephcmjigfepaa
open Go.ChangeShapes Go.WideShapes Go.ChangeAt Go.RowKit
set_option maxHeartbeats 4000000 in
theorem b8_get (w : World) (F : Foot) (p : Value) (d : St) (k : Int) (n m : Nat) (hA : DiskAt w F p d) (ok : StOk d n m) (hn : n ≤ 30000) (hm : m ≤ 50000000) (hk : i64 k) :
    Calls Try.prog 21 #[p, .int .i64 k] w fun e w' => ∃ vb, e = .returned (.tuple #[vb, .bool (getSt d k).2]) ∧ w'.ownsRow w.heap.size 5 1 vb (getSt d k).1.length (bytVs (getSt d k).1) ∧ Below w.heap.size w w' := by
  obtain ⟨b, bl, bs, vw, RL, RS, RW, rfl, h⟩ := hA
  have look := h.ml.look2 hk
  have r := h.row
  have zb := r.lt
  have e1 : w.cell? ⟨b, 1, none⟩ = some (.map (some bl)) := by rw [r.cell]; rfl
  have hsum : sumB d.all ≤ 50000000 := by
    have h1 := nowF_sum d.under d.safe
    have h2 := ok.sum
    unfold St.all
    omega
  unfold getSt
  rcases h.rl.get (k := k) with ⟨g1, g2⟩ | ⟨v, B, g1, g2, hB⟩
  · rw [g1] at look
    rw [g2]
    have look : (Instr.lookup 54 (.map (some bl)) (.int .i64 k) true).run Try.prog w = .ok (.tuple #[.slice none 0 0, .bool false]) w := look
    clear g1 g2 h r hsum ok
    go_enter Try.func21, Try.ntmps21
    go_wp2_with fail
    (refine (Try.bytes_Clone_nil _ _ w).mono ?_; rintro e w1 ⟨rfl, rfl⟩)
    go_wp2
    go_ret2
    exact ⟨_, rfl, World.ownsRow_nil _ _ _ _, Below.refl _ _⟩
  · rw [g1] at look
    rw [g2]
    have look : (Instr.lookup 54 (.map (some bl)) (.int .i64 k) true).run Try.prog w = .ok (.tuple #[v, .bool true]) w := look
    have hBl : B.length ≤ 1000000000 := by
      have hm2 : ∀ (l : Blobs), getF l k = some B → B.length ≤ sumB l := fun l hl => by
        have hq := getF_in hl
        clear hl
        induction l with
        | nil => cases hq
        | cons x l ih =>
          rw [sumB]
          rcases List.mem_cons.1 hq with rfl | hq
          · simp only []; omega
          · have := ih hq; omega
      have := hm2 _ g2
      omega
    obtain ⟨q, c, rfl⟩ := hB.1.shape
    have hc := b8_clone _ B w hB.1 hBl
    have HC := Lib.hid hc
    clear g1 g2 h r hsum ok hc hB hBl
    show Calls _ _ _ _ fun e w' => ∃ vb, e = .returned (.tuple #[vb, .bool true]) ∧ w'.ownsRow w.heap.size 5 1 vb B.length (bytVs B) ∧ Below w.heap.size w w'
    go_enter Try.func21, Try.ntmps21
    go_wp2_with fail
    (refine (HC.out).mono ?_; rintro e w1 ⟨v1, rfl, ho, hb⟩)
    have HO := Lib.hid ho
    have HB := Lib.hid hb
    clear ho hb
    go_wp2
    go_ret2
    exact ⟨_, rfl, HO.out, HB.out⟩
theorem keys_sorted {l : List Raw} (hs : Srt l) {ss : List Int} (hp : ss.Perm (l.map (·.1))) : ss.mergeSort (fun x y => decide (x ≤ y)) = l.map (·.1) := by
  refine List.Perm.eq_of_pairwise (le := fun a b => decide (a ≤ b) = true) (fun a b _ _ h1 h2 => by simp only [decide_eq_true_eq] at h1 h2; omega) (List.pairwise_mergeSort (fun a b c h1 h2 => by simp only [decide_eq_true_eq] at *; omega) (fun a b => by simp only [Bool.or_eq_true, decide_eq_true_eq]; omega) ss) ?_ ((List.mergeSort_perm ss _).trans hp)
  refine List.pairwise_map.2 (hs.imp fun {a b} h => ?_)
  simp only [decide_eq_true_eq]
  omega
theorem rel_keys {R : Value → List Int → Prop} {rs : List Raw} {bs : Blobs} (h : RelG R rs bs) : rs.map (·.1) = bs.map (·.1) := by
  induction h with
  | nil => rfl
  | cons hx _ ih => simp only [List.map_cons, hx.1, ih]
open Go.Maps Go.Sort Go.Shelf in
theorem b8_sorts (m : Nat) : AnyZI.SortsIn Try.prog Try.sortedI38_ren Fence.wide m :=
  ⟨fun blk off cap ss W hH hblk hsz => callsIn_wide.2 (Try.slices_Sort_int blk off cap ss W hH hblk hsz), fun p cap W => callsIn_wide.2 (Try.slices_Sort_int_none p cap W)⟩
open Go.Maps Go.Sort Go.Shelf in
set_option maxHeartbeats 4000000 in
theorem b8_keys (w : World) (F : Foot) (p : Value) (d : St) (n m : Nat) (hA : DiskAt w F p d) (ok : StOk d n m) (hn : n ≤ 30000) (hm : m ≤ 50000000) :
    Calls Try.prog 30 #[p] w fun e w' => ∃ v, e = .returned v ∧ IntsAt w' v (d.all.map (·.1)) ∧ Below w.heap.size w w' := by
  obtain ⟨b, bl, bs, vw, RL, RS, RW, rfl, h⟩ := hA
  have r := h.row
  have zb := r.lt
  have e1 : w.cell? ⟨b, 1, none⟩ = some (.map (some bl)) := by rw [r.cell]; rfl
  have srt : Srt RL := rel_srt h.rl ok.srt.now
  have hk := rel_keys h.rl
  have hown : w.ownsMap Try.prog 3 slR bl RL.length (mapE RL) := h.ml
  have hlen : RL.length ≤ 30000 := by
    rw [h.rl.len]
    have h1 := all_len d
    have h2 := ok.len
    omega
  have hmax : Maps.size (mapE RL) ≤ maxLen := by rw [mapE_size]; simp only [maxLen]; omega
  have hbytes : Maps.size (mapE RL) * 8 ≤ 140737488355328 := by rw [mapE_size]; omega
  have hbl := h.ml.lt
  have KS := Lib.hid (fun ss => keys_sorted srt (ss := ss))
  have HK := Lib.hid hk
  clear hk srt hlen h r ok
  refine (callsIn_wide (n := 6)).1 ?_
  have hseq : SeqGives Fence.wide 2 Try.prog 42 #[.pointer (some ⟨w.heap.size, 0, none⟩)] encZ (fun ss => ss.Perm (intKeys (mapE RL))) (Maps.size (mapE RL)) (w.alloc (.cells #[.map (some bl)] 54)) :=
    AnyZI.keys_gives (ρ := Try.keysI39_ren) { Try.keysI39 with } Fence.wide _ trivial rfl (by omega) w.heap.size bl RL.length (mapE RL) _ (by simp) (by simp) (by
      obtain ⟨es, clock, hb, Ft, hs, hD⟩ := hown
      exact ⟨es, clock, (Below.heap_alloc _ _ bl hbl).trans hb, Ft, hs, hD⟩)
  have cK : ∀ mb W, CallsIn Fence.wide 5 Try.prog 39 #[.map mb] W fun e w' => e = .returned (.func (.func 42) #[] #[.pointer (some ⟨W.heap.size, 0, none⟩)]) ∧ w' = W.alloc (.cells #[.map mb] 54) := fun mb W => AnyZI.keys_in Try.keysI39 Fence.wide 5 trivial rfl mb W
  have cS := AnyZI.sorted_in Try.sortedI38 Fence.wide 5 trivial trivial trivial trivial rfl (by omega) (b8_sorts _) (enters_of Try.func41 (by kernel_rfl) rfl) 42 #[.pointer (some ⟨w.heap.size, 0, none⟩)] trivial (enters_of Try.func42 (by kernel_rfl) rfl) _ _ hmax hbytes _ hseq
  change CallsIn _ _ Try.prog 38 _ _ _ at cS
  have hfK : Fence.wide.fn 39 := trivial
  have hfS : Fence.wide.fn 38 := trivial
  clear hown hmax hbytes hseq
  refine callsIn_of_wp Try.func30 rfl trivial ?_ rfl
  simp only [Try.ntmps30, List.size_toArray, List.length_cons, List.length_nil, Nat.reduceAdd, Nat.reduceSub, Array.replicate_succ, Array.replicate_zero, List.push_toArray, List.append_toArray, List.nil_append, List.cons_append]
  gi_wp2_with (first
    | (gi_at_call 39; refine (cK _ _).mono ?_; rintro e w' ⟨rfl, rfl⟩)
    | (gi_at_call 38; refine cS.mono ?_; rintro e w' ⟨v, ss, rfl, hS, hrow, hnil, hb⟩))
  go_ret
  rw [mapE_keys] at hS
  have e := KS.out ss hS
  rw [e, HK.out] at hrow
  have hl : ss.length = (d.all.map (·.1)).length := by rw [← HK.out]; exact hS.length_eq
  rw [hl] at hrow
  exact ⟨v, rfl, ints_of_owned hrow, ((Below.refl _ w).alloc (Nat.le_refl _) _).trans (hb.mono (by simp))⟩
end Go.Proofs.Ytkephcmjigfepaa
