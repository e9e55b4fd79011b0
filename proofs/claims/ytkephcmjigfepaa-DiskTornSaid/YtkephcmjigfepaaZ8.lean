/- Texts of one layer behind each other. -/
import Derived.Test.YtkephcmjigfepaaK84
import Derived.Maps.RangeWalk
import Derived.Maps.Ext
import Derived.WideKeyEntry
import Derived.Lib.SlKeysI
import Derived.Test.YtkephcmjigfepaaK05
import Derived.Test.YtkephcmjigfepaaB8I
import Derived.Test.YtkephcmjigfepaaShelf
import Derived.Lib.MinMax
import Derived.Carry
import Derived.Test.YtkephcmjigfepaaS06
import Derived.Test.YtkephcmjigfepaaIter
import Derived.OwnWalkIn
/- Maps of blobs, read as raw rows whose keys rise (the library's maps, its elements told by the slice itself); laws for the walk. Of the program: types alone. -/
set_option linter.unusedVariables false
set_option linter.unusedSimpArgs false
namespace Go.Proofs.Ytkephcmjigfepaa
open Go Go.RowKit
open Go.Maps (Keyed)
/-- An element told by its slice. -/
def slR (v : Value) : Option (DataW Value × List MemPlace) :=
  match v with
  | .slice p n c => some (.held (.slice p n c), [])
  | _ => none
theorem slR_mk {v : Value} (h : isSl v) : slR v = some (.held v, []) := by
  obtain ⟨p, n, c, rfl⟩ := h
  rfl
theorem slR_inv {v : Value} {z : DataW Value × List MemPlace} (h : slR v = some z) : isSl v ∧ z = (.held v, []) := by
  unfold slR at h
  split at h
  · cases h; exact ⟨⟨_, _, _, rfl⟩, rfl⟩
  · cases h
def entE (r : Raw) : Lit × DataW Value := (.int .i64 r.1, .held r.2)
def mapE (S : List Raw) : DataW Value := .map (S.map entE)
theorem ent_inj {a b : Raw} (h : entE a = entE b) : a = b := by
  obtain ⟨a1, a2⟩ := a
  obtain ⟨b1, b2⟩ := b
  simp [entE] at h
  rw [h.1, h.2]
theorem map_inj : ∀ {S T : List Raw}, S.map entE = T.map entE → S = T
  | [], [], _ => rfl
  | [], _ :: _, h => by simp at h
  | _ :: _, [], h => by simp at h
  | a :: S, b :: T, h => by
    simp only [List.map_cons, List.cons.injEq] at h
    rw [ent_inj h.1, map_inj h.2]
theorem mapE_inj {S T : List Raw} (h : mapE S = mapE T) : S = T := by
  unfold mapE at h
  exact map_inj (by simpa using h)
theorem same_int (a b : Int) : (Lit.int .i64 a).sameKey (.int .i64 b) = decide (a = b) := by simp [Lit.sameKey]
theorem ins_big (k : Int) (v : Value) : ∀ S : List Raw, (∀ x ∈ S, k < x.1) → DataW.insert (entE (k, v)) (S.map entE) = entE (k, v) :: S.map entE
  | [], _ => rfl
  | x :: S, h => by
    have := h x (List.mem_cons_self ..)
    simp [DataW.insert, entE, Lit.before, this]
theorem filter_big (k : Int) (S : List Raw) (h : ∀ x ∈ S, k < x.1) : (S.map entE).filter (fun p => !p.1.sameKey (.int .i64 k)) = S.map entE := by
  refine List.filter_eq_self.2 fun p hp => ?_
  obtain ⟨x, hx, rfl⟩ := List.mem_map.1 hp
  have := h x hx
  simp [entE, same_int]; omega
theorem put_go (k : Int) (v : Value) : ∀ S : List Raw, Srt S → DataW.insert (entE (k, v)) ((S.map entE).filter (fun p => !p.1.sameKey (.int .i64 k))) = (insF S (k, v)).map entE
  | [], _ => rfl
  | x :: S, h => by
    obtain ⟨h1, h2⟩ := List.pairwise_cons.1 h
    rw [insF, List.map_cons, List.filter_cons]
    by_cases c : k ≤ x.1
    · have hb : ∀ y ∈ S, k < y.1 := fun y hy => by have := h1 y hy; omega
      rw [if_pos c, filter_big k S hb]
      by_cases c2 : x.1 = k
      · rw [if_pos c2, if_neg (by simp [entE, same_int, c2]), ins_big k v S hb, List.map_cons]
      · rw [if_neg c2, if_pos (by simp [entE, same_int, c2]), List.map_cons, List.map_cons]
        have : k < x.1 := by omega
        simp [DataW.insert, entE, Lit.before, this]
    · have c2 : ¬ x.1 = k := by omega
      have c3 : ¬ k < x.1 := by omega
      rw [if_neg c, if_pos (by simp [entE, same_int, c2]), List.map_cons, ← put_go k v S h2]
      simp [DataW.insert, entE, Lit.before, c3]
theorem mapE_put {S : List Raw} (h : Srt S) (k : Int) (v : Value) : (mapE S).put (.int .i64 k) (.held v) = mapE (insF S (k, v)) := by
  unfold mapE DataW.put
  simp only []
  rw [← put_go k v S h]
  rfl
theorem mapE_has (k : Int) : ∀ S : List Raw, Maps.has (mapE S) (.int .i64 k) = (getF S k).isSome
  | [] => rfl
  | x :: S => by
    have ih := mapE_has k S
    unfold mapE at ih ⊢
    rw [Maps.has_eq] at ih ⊢
    rw [List.map_cons, List.any_cons, ih, getF]
    by_cases c : x.1 = k
    · simp [entE, same_int, c]
    · simp [entE, same_int, c]
theorem mapE_at (k : Int) (z : Value) : ∀ S : List Raw, (mapE S).atKey (.int .i64 k) (.held z) = .held ((getF S k).getD z)
  | [] => rfl
  | x :: S => by
    have ih := mapE_at k z S
    unfold mapE at ih ⊢
    simp only [DataW.atKey] at ih ⊢
    rw [List.map_cons, List.find?_cons, getF]
    by_cases c : x.1 = k
    · simp [entE, same_int, c]
    · simp only [entE, same_int, c, decide_false, Bool.false_eq_true, if_false]
      exact ih
theorem mapE_size (S : List Raw) : Maps.size (mapE S) = S.length := by simp [mapE, Maps.size_eq]
theorem mapE_keys (S : List Raw) : intKeys (mapE S) = S.map (·.1) := by
  unfold mapE
  simp [intKeys, entE]
  exact fun _ _ _ => rfl
theorem own_tight {P : Program} {k : TypeId} {R : Value → Option (DataW Value × List MemPlace)} {w : World} {b n : Nat} {D : DataW Value} (h : w.ownsMap P k R b n D) : w.ownsMap P k R b (Maps.size D) D := by
  obtain ⟨es, clock, hb, F, hs, rfl⟩ := h
  exact ⟨es, clock, hb, F, by simp [Maps.size_eq, length_sorted], rfl⟩
theorem keyI : Keyed Try.prog 3 := Go.Maps.int_keyed Try.underlying3
theorem key_of {k : Int} (h : i64 k) : keyOf Try.prog 3 (.int .i64 k) = some (.int .i64 k) := Go.Maps.keyOf_int_mk Try.underlying3 (WalkArith.wf_i64 h)
/-- Block b is a map that reads as those keys and slices. -/
def MapAt (w : World) (b : Nat) (S : List Raw) : Prop := w.ownsMap Try.prog 3 slR b S.length (mapE S)
theorem MapAt.of {w : World} {b n : Nat} {S : List Raw} (h : w.ownsMap Try.prog 3 slR b n (mapE S)) : MapAt w b S := by
  have := own_tight h
  rwa [mapE_size] at this
theorem MapAt.lt {w : World} {b : Nat} {S : List Raw} (h : MapAt w b S) : b < w.heap.size := World.ownsMap.lt h
theorem MapAt.same {w w' : World} {b : Nat} {S : List Raw} (h : MapAt w b S) (e : w'.heap[b]? = w.heap[b]?) : MapAt w' b S := by
  obtain ⟨es, clock, hb, r⟩ := h
  exact ⟨es, clock, e.trans hb, r⟩
theorem MapAt.keep {w w' : World} {b : Nat} {S : List Raw} (h : MapAt w b S) (hb : Below w.heap.size w w') : MapAt w' b S := h.same (hb.block b h.lt)
theorem MapAt.new (w : World) : MapAt (w.alloc (.map #[] 0)) w.heap.size [] := World.ownsMap_made w _ _ _
theorem MapAt.nocells {w : World} {b : Nat} {S : List Raw} (h : MapAt w b S) {c : Array Value} {t : TypeId} {f : Nat × Nat} (hc : w.heap[b]? = some (.cells c t f)) : False := by
  obtain ⟨es, clock, hb, _⟩ := h
  rw [hc] at hb
  cases hb
theorem zero_sl (w : World) : (zeroValue 32).run Try.prog w = .ok (.slice none 0 0) w := by kernel_rfl
theorem MapAt.look {w : World} {b : Nat} {S : List Raw} (h : MapAt w b S) {k : Int} (hk : i64 k) :
    (Instr.lookup 54 (.map (some b)) (.int .i64 k) false).run Try.prog w = .ok ((getF S k).getD (.slice none 0 0)) w := by
  obtain ⟨v, ps, hrun, hv⟩ := World.ownsMap.lookup h keyI Try.underlying54 (zero_sl w) (slR_mk ⟨_, _, _, rfl⟩) (key_of hk)
  obtain ⟨_, e⟩ := slR_inv hv
  rw [mapE_at] at e
  simp only [Prod.mk.injEq, DataW.held.injEq] at e
  rw [hrun, e.1]
theorem MapAt.look2 {w : World} {b : Nat} {S : List Raw} (h : MapAt w b S) {k : Int} (hk : i64 k) :
    (Instr.lookup 54 (.map (some b)) (.int .i64 k) true).run Try.prog w = .ok (.tuple #[(getF S k).getD (.slice none 0 0), .bool (getF S k).isSome]) w := by
  obtain ⟨v, ps, hrun, hv⟩ := World.ownsMap.look_ok h keyI Try.underlying54 (zero_sl w) (slR_mk ⟨_, _, _, rfl⟩) (key_of hk)
  obtain ⟨_, e⟩ := slR_inv hv
  rw [mapE_at] at e
  simp only [Prod.mk.injEq, DataW.held.injEq] at e
  rw [hrun, e.1, mapE_has]
theorem MapAt.upd {w : World} {b : Nat} {S : List Raw} (h : MapAt w b S) (hs : Srt S) {k : Int} (hk : i64 k) {v : Value} (hv : isSl v) (hn : S.length ≤ 1000000) :
    ∃ w', (Instr.mapUpdate 54 (.map (some b)) (.int .i64 k) v).run Try.prog w = .ok () w' ∧ MapAt w' b (insF S (k, v)) ∧ w.mapTurned w' b := by
  obtain ⟨w', hrun, h2, ht⟩ := World.ownsMap.store h keyI Try.underlying54 (by simp only [maxLen]; omega) (key_of hk) (slR_mk hv)
  rw [mapE_put hs] at h2
  exact ⟨w', hrun, .of h2, ht⟩
theorem turned_size {w w' : World} {b : Nat} (h : w.mapTurned w' b) : w'.heap.size = w.heap.size := by
  obtain ⟨es, clock, es', clock', hb, rfl⟩ := h
  simp [ChangeMaps.setBlock]
theorem turned_of {w : World} {b : Nat} {es : Array MapEntry} {clock : Nat} (hb : w.heap[b]? = some (.map es clock)) (es' : Array MapEntry) (clock' : Nat) : w.mapTurned (ChangeMaps.setBlock w b (.map es' clock')) b := ⟨es, clock, es', clock', hb, rfl⟩
open Go.WideElems Go.ChangeMaps in
theorem MapAt.entry {w : World} {b : Nat} {S : List Raw} (h : MapAt w b S) (hs : Srt S) {k : Int} (hk : i64 k) (hn : S.length ≤ 1000000) :
    ∃ v0 st w1, (Instr.mapEntry 54 (.map (some b)) (.int .i64 k)).run Try.prog w = .ok (.tuple #[v0, goInt (st : Nat)]) w1 ∧ w.mapTurned w1 b ∧
      ∀ y : Value, isSl y → ∃ w2, (Instr.entryStore 54 (.map (some b)) (goInt (st : Nat)) y).run Try.prog w1 = .ok () w2 ∧ MapAt w2 b (insF S (k, y)) ∧ w1.mapTurned w2 b := by
  have hup := fun (y : Value) (hy : isSl y) => h.upd hs hk hy hn
  obtain ⟨es, clock, hb, F, hsz, hD⟩ := h
  obtain ⟨s1, s2, _⟩ := F.stamped
  have hkey := key_of hk
  have ht := Try.underlying54
  have hz := zero_sl
  generalize hkv : Value.int .i64 k = key at *
  rcases keyI.find w hkey es.toList F.keys with ⟨h1, h2⟩ | ⟨j, e0, h1, h2, h3⟩
  · refine ⟨.slice none 0 0, clock, setBlock w b (.map (es.push ⟨key, .slice none 0 0, clock⟩) (clock + 1)), ?_, turned_of hb _ _, fun y hy => ?_⟩
    · simp [Instr.mapEntry, run_underlying ht, MapKept.run_getObj_map hb, keyI.check w false hkey, h1, hz, MapKept.run_setObj_map _ hb, Result.andThen, setBlock]
    · obtain ⟨w', hrun, hM, _⟩ := hup y hy
      have hidx : (es.push ⟨key, .slice none 0 0, clock⟩).findIdx? (fun e => ((e.born : Nat) : Int) == ((clock : Nat) : Int)) = some es.size := by
        rw [findIdx_arr]
        have := findIdx_born (l := (es.push ⟨key, .slice none 0 0, clock⟩).toList) (j := es.size) (e0 := ⟨key, .slice none 0 0, clock⟩) (by
          simp only [Array.toList_push, List.map_append, List.map_cons, List.map_nil]
          refine List.nodup_append.2 ⟨s2, by simp, fun a ha c hc e1 => ?_⟩
          simp only [List.mem_singleton] at hc
          obtain ⟨x, hx, rfl⟩ := List.mem_map.1 ha
          have := s1 x hx
          omega) (by simp)
        exact this
      have hmod : (es.push ⟨key, .slice none 0 0, clock⟩).modify es.size (fun e => { e with val := y }) = es.push ⟨key, y, clock⟩ := by
        apply Array.ext'
        rw [Array.toList_modify, Array.toList_push, Array.toList_push, ← Array.length_toList, modify_last]
      have hb1 := heap_setBlock_same hb (.map (es.push ⟨key, .slice none 0 0, clock⟩) (clock + 1))
      have e1 : (Instr.mapUpdate 54 (.map (some b)) key y).run Try.prog w = .ok () (setBlock w b (.map (es.push ⟨key, y, clock⟩) (clock + 1))) := by
        simp [Instr.mapUpdate, run_underlying ht, MapKept.run_getObj_map hb, keyI.check w false hkey, h1, MapKept.run_setObj_map _ hb, Result.andThen, setBlock]
      rw [e1] at hrun
      cases hrun
      refine ⟨setBlock (setBlock w b (.map (es.push ⟨key, .slice none 0 0, clock⟩) (clock + 1))) b (.map (es.push ⟨key, y, clock⟩) (clock + 1)), ?_, hM.same ((heap_setBlock_same hb1 _).trans (heap_setBlock_same hb _).symm), turned_of hb1 _ _⟩
      simp [Instr.entryStore, MapKept.run_getObj_map hb1, asInt, asIntOf, goInt, hidx, hmod, MapKept.run_setObj_map _ hb1, Result.andThen]
      rfl
  · have hj : es[j]? = some e0 := by simpa using h2
    have hsame : es.modify j (fun e => { e with key := key }) = es := by
      apply Array.ext'
      rw [Array.toList_modify, modify_eq_set _ _ _ _ h2]
      have : ({ e0 with key := key } : MapEntry) = e0 := by rw [← h3]
      rw [this]
      exact set_self _ _ _ h2
    refine ⟨e0.val, e0.born, setBlock w b (.map es clock), ?_, turned_of hb _ _, fun y hy => ?_⟩
    · simp [Instr.mapEntry, run_underlying ht, MapKept.run_getObj_map hb, keyI.check w false hkey, h1, hj, h3, keyI.stays w hkey, hsame, MapKept.run_setObj_map _ hb, Result.andThen, setBlock]
    · obtain ⟨w', hrun, hM, _⟩ := hup y hy
      have hidx : es.findIdx? (fun e => ((e.born : Nat) : Int) == ((e0.born : Nat) : Int)) = some j := by
        rw [findIdx_arr]
        exact findIdx_born s2 h2
      have hmod : es.modify j (fun e => { e with val := y }) = es.modify j (fun e' => { e' with key := key, val := y }) := by
        apply Array.ext'
        rw [Array.toList_modify, Array.toList_modify, modify_eq_set _ _ _ _ h2, modify_eq_set _ _ _ _ h2, ← h3]
      have hb1 := heap_setBlock_same hb (.map es clock)
      have e1 : (Instr.mapUpdate 54 (.map (some b)) key y).run Try.prog w = .ok () (setBlock w b (.map (es.modify j (fun e' => { e' with key := key, val := y })) clock)) := by
        simp [Instr.mapUpdate, run_underlying ht, MapKept.run_getObj_map hb, keyI.check w false hkey, h1, hj, h3, keyI.stays w hkey, MapKept.run_setObj_map _ hb, Result.andThen, setBlock]
      rw [e1] at hrun
      cases hrun
      refine ⟨setBlock (setBlock w b (.map es clock)) b (.map (es.modify j (fun e' => { e' with key := key, val := y })) clock), ?_, hM.same ((heap_setBlock_same hb1 _).trans (heap_setBlock_same hb _).symm), turned_of hb1 _ _⟩
      simp [Instr.entryStore, MapKept.run_getObj_map hb1, asInt, asIntOf, goInt, hidx, hmod, MapKept.run_setObj_map _ hb1, Result.andThen]
      rfl
section
variable {ops : Array Oper} {rest : List Oper} {o : Oper} {a : Act} {Q : Exit → Act → World → Prop}
/-- m[k] = v -/
theorem wp_upd (w : World) (hg : o.guard = none) (m x v : Operand) (hop : o.op = Op.mapUpdate 54 m x v) (b : Nat) (S : List Raw) (hm : a.eval m = .map (some b)) (h : MapAt w b S) (hs : Srt S) (hn : S.length ≤ 1000000)
    (k : Int) (hx : a.eval x = .int .i64 k) (hk : i64 k) (y : Value) (hv : a.eval v = y) (hy : isSl y)
    (hK : ∀ w', MapAt w' b (insF S (k, y)) → w.grownBy w' (some b) → w'.heap.size = w.heap.size → wpList Try.prog ops Q rest (a.put o.dst undef) w') : wpList Try.prog ops Q (o :: rest) a w := by
  refine wpList_plain hg fun K' hK' => ?_
  obtain ⟨w', hrun, h2, ht⟩ := h.upd hs hk hy hn
  unfold Oper.wp
  simp [execOp, hop, hm, hx, hv, hrun, Result.andThen]
  exact hK' _ _ (hK w' h2 ht.grown (turned_size ht))
/-- m[k], .. = v, ..: the entry ahead of the store. -/
theorem wp_entry (w : World) (hg : o.guard = none) (m x : Operand) (hop : o.op = Op.mapEntry 54 m x) (b : Nat) (S : List Raw) (hm : a.eval m = .map (some b)) (h : MapAt w b S) (hs : Srt S) (hn : S.length ≤ 1000000)
    (k : Int) (hx : a.eval x = .int .i64 k) (hk : i64 k)
    (hK : ∀ w' v0 (st : Nat), w.grownBy w' (some b) → w'.heap.size = w.heap.size → (∀ y : Value, isSl y → ∃ w2, (Instr.entryStore 54 (.map (some b)) (goInt st) y).run Try.prog w' = .ok () w2 ∧ MapAt w2 b (insF S (k, y)) ∧ w'.grownBy w2 (some b) ∧ w2.heap.size = w'.heap.size) →
      wpList Try.prog ops Q rest (a.put o.dst (.tuple #[v0, goInt st])) w') : wpList Try.prog ops Q (o :: rest) a w := by
  refine wpList_plain hg fun K' hK' => ?_
  obtain ⟨v0, st, w1, hrun, ht, h2⟩ := h.entry hs hk hn
  unfold Oper.wp
  simp [execOp, hop, hm, hx, hrun, Result.andThen]
  refine hK' _ _ (hK w1 v0 st ht.grown (turned_size ht) fun y hy => ?_)
  obtain ⟨w2, h3, h4, h5⟩ := h2 y hy
  exact ⟨w2, h3, h4, h5.grown, turned_size h5⟩
end
/-- Two maps as read, of which one has been laid out of the other, are one. -/
theorem agree_done {L S : List Raw} {w w' : World} {b c : Nat} (h : MapAt w b L) (k : MapAt w' c S) {left : Lit → Bool} (hA : Go.Maps.Agree (mapE L) (mapE S) left) (hl : ∀ x, left x = false) : L = S :=
  mapE_inj (Go.Maps.agree_end hA hl (World.ownsMap.canon h keyI) (World.ownsMap.canon k keyI))
end Go.Proofs.Ytkephcmjigfepaa
/- The maths of what a crash leaves, round by round; rows of blobs as they rise. No program. -/
set_option linter.unusedVariables false
set_option linter.unusedSimpArgs false
namespace Go.Proofs.Ytkephcmjigfepaa
open Go Go.RowKit
abbrev cutB : List Int → Nat → List Int := fun B k => B.take k
theorem crash_full : ∀ (U S : Blobs) (K : Nat), sumB U ≤ K → crashGo List.length cutB S K U = nowF S U
  | [], S, K, _ => rfl
  | (q, B) :: U, S, K, h => by
    rw [sumB] at h
    have e : crashGo List.length cutB S K ((q, B) :: U) = if B.length ≤ K then crashGo List.length cutB (layF S (q, B)) (K - B.length) U else layF S (q, B.take K) := rfl
    rw [e, if_pos (by simp only [] at h; omega), crash_full U _ _ (by simp only [] at h; omega)]
    rfl
theorem crash_cut : ∀ (U S : Blobs) (K j : Nat) (hj : j < U.length), sumB (U.take j) ≤ K → K - sumB (U.take j) < U[j].2.length →
    crashGo List.length cutB S K U = layF (nowF S (U.take j)) (U[j].1, U[j].2.take (K - sumB (U.take j)))
  | (q, B) :: U, S, K, 0, hj, h1, h2 => by
    have e : crashGo List.length cutB S K ((q, B) :: U) = if B.length ≤ K then crashGo List.length cutB (layF S (q, B)) (K - B.length) U else layF S (q, B.take K) := rfl
    simp only [List.take_zero, sumB, List.getElem_cons_zero, Nat.sub_zero] at h2 ⊢
    rw [e, if_neg (by omega)]
    rfl
  | (q, B) :: U, S, K, j + 1, hj, h1, h2 => by
    have e : crashGo List.length cutB S K ((q, B) :: U) = if B.length ≤ K then crashGo List.length cutB (layF S (q, B)) (K - B.length) U else layF S (q, B.take K) := rfl
    simp only [List.take_succ_cons, sumB, List.getElem_cons_succ] at h1 h2 ⊢
    rw [e, if_pos (by omega), crash_cut U _ _ j (by simpa using hj) (by omega) (by rw [show K - B.length - sumB (U.take j) = K - (B.length + sumB (U.take j)) by omega]; exact h2)]
    rw [show K - B.length - sumB (U.take j) = K - (B.length + sumB (U.take j)) by omega]
    rfl
theorem crash_min (U S : Blobs) (K : Nat) : crashGo List.length cutB S (min K (sumB U)) U = crashGo List.length cutB S K U := by
  rcases Nat.le_total (sumB U) K with h | h
  · rw [Nat.min_eq_right h, crash_full U S _ (Nat.le_refl _), crash_full U S K h]
  · rw [Nat.min_eq_left h]
theorem sumB_take (U : Blobs) (j : Nat) : sumB (U.take j) ≤ sumB U := by
  conv => rhs; rw [← List.take_append_drop j U, sumB_append]
  omega
theorem sumB_next (U : Blobs) (j : Nat) (h : j < U.length) : sumB (U.take (j + 1)) = sumB (U.take j) + U[j].2.length := by
  rw [take_succ_get U j h, sumB_append]
  simp [sumB]
theorem nowF_next {β : Type} (S U : List (Int × β)) (j : Nat) (h : j < U.length) : nowF S (U.take (j + 1)) = layF (nowF S (U.take j)) U[j] := by
  rw [take_succ_get U j h, nowF_snoc]
section
variable {R : Value → List Int → Prop}
theorem rel_srt {rs : List Raw} {bs : Blobs} (h : RelG R rs bs) (hs : Srt bs) : Srt rs := by
  induction h with
  | nil => exact List.Pairwise.nil
  | @cons r b rs bs hx hr ih =>
    obtain ⟨h1, h2⟩ := List.pairwise_cons.1 hs
    refine List.pairwise_cons.2 ⟨fun y hy => ?_, ih h2⟩
    have hm : ∀ {rs : List Raw} {bs : Blobs}, RelG R rs bs → ∀ y ∈ rs, ∃ z ∈ bs, z.1 = y.1 := fun {rs bs} h => by
      induction h with
      | nil => intro y hy; cases hy
      | cons hx hr ih =>
        intro y hy
        rcases List.mem_cons.1 hy with rfl | hy
        · exact ⟨_, List.mem_cons_self .., hx.1.symm⟩
        · obtain ⟨z, hz, e⟩ := ih y hy
          exact ⟨z, List.mem_cons_of_mem _ hz, e⟩
    obtain ⟨z, hz, e⟩ := hm hr y hy
    have := h1 z hz
    rw [hx.1, ← e]
    exact this
theorem rel_nth {rs : List Raw} {bs : Blobs} (h : RelG R rs bs) : ∀ (j : Nat) (hj : j < rs.length) (hk : j < bs.length), rs[j].1 = bs[j].1 ∧ R rs[j].2 bs[j].2 := by
  induction h with
  | nil => intro j hj; simp at hj
  | cons hx hr ih =>
    intro j hj hk
    cases j with
    | zero => exact hx
    | succ j => exact ih j (by simpa using hj) (by simpa using hk)
theorem rel_mem {rs : List Raw} {bs : Blobs} (h : RelG R rs bs) : ∀ y ∈ rs, ∃ z ∈ bs, y.1 = z.1 ∧ R y.2 z.2 := by
  induction h with
  | nil => intro y hy; cases hy
  | cons hx hr ih =>
    intro y hy
    rcases List.mem_cons.1 hy with rfl | hy
    · exact ⟨_, List.mem_cons_self .., hx⟩
    · obtain ⟨z, hz, e⟩ := ih y hy
      exact ⟨z, List.mem_cons_of_mem _ hz, e⟩
end
theorem srt_keys {β γ : Type} : ∀ {l : List (Int × β)} {m : List (Int × γ)}, l.map (·.1) = m.map (·.1) → Srt m → Srt l
  | [], [], _, _ => List.Pairwise.nil
  | [], _ :: _, h, _ => by simp at h
  | _ :: _, [], h, _ => by simp at h
  | a :: l, b :: m, h, hs => by
    simp only [List.map_cons, List.cons.injEq] at h
    obtain ⟨h1, h2⟩ := List.pairwise_cons.1 hs
    refine List.pairwise_cons.2 ⟨fun y hy => ?_, srt_keys h.2 h2⟩
    have hm : y.1 ∈ m.map (·.1) := by rw [← h.2]; exact List.mem_map.2 ⟨y, hy, rfl⟩
    obtain ⟨z, hz, e⟩ := List.mem_map.1 hm
    have := h1 z hz
    rw [h.1, ← e]
    exact this
/-- Blobs that are all among others are no more bytes. -/
theorem lenR_sub : ∀ (S L : List Raw), Srt S → Srt L → (∀ x ∈ L, x ∈ S) → lenR L ≤ lenR S
  | [], [], _, _, _ => Nat.le_refl _
  | [], x :: L, _, _, h => by have := h x (List.mem_cons_self ..); cases this
  | s :: S, [], _, _, _ => by simp [lenR]
  | s :: S, x :: L, hs, hl, h => by
    obtain ⟨s1, s2⟩ := List.pairwise_cons.1 hs
    obtain ⟨l1, l2⟩ := List.pairwise_cons.1 hl
    rcases List.mem_cons.1 (h x (List.mem_cons_self ..)) with rfl | hx
    · have := lenR_sub S L s2 l2 fun y hy => by
        rcases List.mem_cons.1 (h y (List.mem_cons_of_mem _ hy)) with rfl | hy2
        · have := l1 y hy; omega
        · exact hy2
      rw [lenR, lenR]; omega
    · have := lenR_sub S (x :: L) s2 hl fun y hy => by
        rcases List.mem_cons.1 (h y hy) with rfl | hy2
        · have h1 := s1 x hx
          rcases List.mem_cons.1 hy with rfl | hy3
          · omega
          · have := l1 y hy3; omega
        · exact hy2
      refine Nat.le_trans this ?_
      show lenR S ≤ slLen s.2 + lenR S
      omega
theorem lenR_ins {k : Int} {v : Value} : ∀ {l : List Raw}, getF l k = none → lenR (insF l (k, v)) = lenR l + slLen v
  | [], _ => by simp [insF, lenR]
  | x :: l, h => by
    rw [getF] at h
    by_cases c : x.1 = k
    · rw [if_pos c] at h; cases h
    · rw [if_neg c] at h
      rw [insF]
      by_cases c2 : k ≤ x.1
      · rw [if_pos c2, if_neg c]; simp only [lenR]; omega
      · rw [if_neg c2]; simp only [lenR]; rw [lenR_ins h]; omega
theorem getF_in {β : Type} {k : Int} {v : β} : ∀ {l : List (Int × β)}, getF l k = some v → (k, v) ∈ l
  | [], h => by cases h
  | x :: l, h => by
    rw [getF] at h
    by_cases c : x.1 = k
    · rw [if_pos c] at h
      cases h
      subst c
      exact List.mem_cons_self ..
    · rw [if_neg c] at h
      exact List.mem_cons_of_mem _ (getF_in h)
theorem mem_getF {β : Type} {k : Int} {v : β} {l : List (Int × β)} (hs : Srt l) (h : (k, v) ∈ l) : getF l k = some v := by
  obtain ⟨j, hj, e⟩ := List.getElem_of_mem h
  have := hs.get hj
  rw [e] at this
  exact this
end Go.Proofs.Ytkephcmjigfepaa
/- Where an append's row lies. No program. -/
set_option linter.unusedVariables false
set_option linter.unusedSimpArgs false
namespace Go.Proofs.Ytkephcmjigfepaa
open Go Go.RowKit
/-- Where an append's row lies: where it lay, or in a new block. -/
theorem run_append_fresh {P : Program} (w : World) (base : Nat) (t ty e : TypeId) (i : TypeInfo) (z : Value) (ht : P.underlying t = some (.slice e)) (hi : P.info? e = some i) (hz : i.zero = some z)
    (v : Value) (n : Nat) (xs : List Value) (hown : w.ownsRow base e i.size v n xs) (a : Addr) (m c : Nat) (news : List Value) (hl : news.length = m * i.size) (hnews : ∀ j u, news[j]? = some u → w.cell? (a.add j) = some u) (h1 : ∀ u ∈ news, u.oneCell' = true)
    (h63 : n + m ≤ maxLen) (hbytes : (n + m) * i.bytes ≤ 140737488355328) (hm : 0 < m) :
    ∃ v' w', (Builtin.append_ #[t, t] ty #[v, .slice (some a) m c]).run P w = .ok v' w' ∧ (v'.ownBlock = v.ownBlock ∨ v'.ownBlock = some w.heap.size) := by
  have hsmall : n + m ≤ 9223372036854775807 := by simp only [maxLen] at h63; omega
  rcases hown.2 with ⟨rfl, rfl⟩ | ⟨g, cap, cur, rfl, hbg, hg, hnc, hcm, hcs, htake⟩
  · exact ⟨_, _, run_append_nil (P := P) w t ty e i z ht hi hz a m c news hl hnews hm (by omega) (by rw [Nat.zero_add] at hbytes; omega), .inr rfl⟩
  · by_cases hroom : n + m ≤ cap
    · exact ⟨_, _, run_append_room (P := P) w t ty e i ht hi g n cap cur hg a m c news hl hnews h1 hroom (by rw [hl, hcs, ← Nat.add_mul]; exact Nat.mul_le_mul_right _ hroom), .inl rfl⟩
    · exact ⟨_, _, run_append_grow (P := P) w t ty e i z ht hi hz ⟨g, 0, none⟩ n cap xs hown.1 (hown.cells (g := g) rfl) a m c news hl hnews (by omega) (by omega) (growslice_fits (by omega) hbytes), .inr rfl⟩
end Go.Proofs.Ytkephcmjigfepaa
/- The landed disk in memory: words; contracts of its small functions. -/
set_option linter.unusedVariables false
set_option linter.unusedSimpArgs false
namespace Go.Proofs.Ytkephcmjigfepaa
open Go.ChangeShapes Go.WideShapes Go.ChangeAt Go.RowKit
/-- What is written outside X is new. -/
abbrev Wr (X : Foot) (w w' : World) : Prop := Step X (fun _ => False) w w'
theorem Wr.of {X : Foot} {w w' : World} (hb : Below w.heap.size w w') : Wr X w w' := ⟨hb.os, hb.tape, hb.output, hb.size, fun b h _ => hb.block b h, fun b h => h.elim⟩
theorem Wr.refl (X : Foot) (w : World) : Wr X w w := Wr.of (Below.refl _ _)
theorem Wr.mono {X Y : Foot} {w w' : World} (h : Wr X w w') (hx : ∀ b, X b → Y b) : Wr Y w w' := ⟨h.os, h.tape, h.output, h.size, fun b hb hn => h.block b hb (fun hX => hn (hx b hX)), fun b h => h.elim⟩
theorem Wr.trans {X : Foot} {a b c : World} (h : Wr X a b) (k : Wr X b c) : Wr X a c :=
  ⟨k.os.trans h.os, k.tape.trans h.tape, k.output.trans h.output, Nat.le_trans h.size k.size, fun x hx hn => (k.block x (Nat.lt_of_lt_of_le hx h.size) hn).trans (h.block x hx hn), fun b h => h.elim⟩
theorem Wr.setCell {X : Foot} {a b : World} (h : Wr X a b) {p : Addr} (hp : X p.block ∨ a.heap.size ≤ p.block) (v : Value) : Wr X a (b.setCell p v) :=
  ⟨h.os, h.tape, h.output, by simpa [World.setCell] using h.size, fun x hx hn => (Below.heap_setCell b p v x (by
    rintro rfl
    rcases hp with hp | hp
    · exact hn hp
    · omega)).trans (h.block x hx hn), fun b h => h.elim⟩
theorem wr_set (w : World) (b j : Nat) (v : Value) : Wr (fun x => x = b) w (w.setCell ⟨b, j, none⟩ v) := Wr.setCell (X := fun x => x = b) (Wr.refl _ _) (p := ⟨b, j, none⟩) (.inl rfl) v
theorem Wr.put {X : Foot} {a c : World} (h : Wr X a c) {b : Nat} (hb : X b ∨ a.heap.size ≤ b) (j : Nat) (v : Value) : Wr X a (c.setCell ⟨b, j, none⟩ v) := h.setCell (p := ⟨b, j, none⟩) hb v
theorem Wr.alloc {X : Foot} {a b : World} (h : Wr X a b) (o : Obj) : Wr X a (b.alloc o) :=
  ⟨h.os, h.tape, h.output, by simpa using Nat.le_succ_of_le h.size, fun x hx hn => (Below.heap_alloc b o x (Nat.lt_of_lt_of_le hx h.size)).trans (h.block x hx hn), fun b h => h.elim⟩
theorem Wr.grown {X : Foot} {a b c : World} {row : Option Nat} (h : Wr X a b) (hg : b.grownBy c row) (hr : ∀ k, row = some k → X k ∨ a.heap.size ≤ k) : Wr X a c :=
  ⟨hg.os.trans h.os, hg.tape.trans h.tape, hg.output.trans h.output, Nat.le_trans h.size hg.size, fun x hx hn => (hg.block x (Nat.lt_of_lt_of_le hx h.size) (by
    intro e
    rcases hr x e.symm with h | h
    · exact hn h
    · omega)).trans (h.block x hx hn), fun b h => h.elim⟩
theorem Wr.below {X : Foot} {a b c : World} (h : Wr X a b) (hb : Below b.heap.size b c) : Wr X a c := h.trans (Wr.of hb)
theorem Wr.step {X F F' : Foot} {w w' : World} (h : Wr X w w') (hX : ∀ b, X b → F b) (hF : ∀ b, F' b → F b ∨ w.heap.size ≤ b) : Step F F' w w' :=
  ⟨h.os, h.tape, h.output, h.size, fun b hb hn => h.block b hb (fun hx => hn (hX b hx)), hF⟩
theorem Wr.row {X : Foot} {w w' : World} (h : Wr X w w') {b : Nat} {cs : Array Value} {t : TypeId} (r : RowAt w b cs t) (hn : ¬ X b) : RowAt w' b cs t := (h.block b r.lt hn).trans r
theorem Wr.own {X : Foot} {w w' : World} (h : Wr X w w') {base : Nat} {e : TypeId} {size n : Nat} {v : Value} {xs : List Value} (r : w.ownsRow base e size v n xs) (hn : ∀ g, v.ownBlock = some g → ¬ X g) : w'.ownsRow base e size v n xs := by
  refine ⟨r.1, ?_⟩
  rcases r.2 with h1 | ⟨g, cap, cur, rfl, hb, hg, rest⟩
  · exact .inl h1
  · exact .inr ⟨g, cap, cur, rfl, hb, (h.block g (Array.getElem?_eq_some_iff.1 hg).1 (hn g rfl)).trans hg, rest⟩
/-- The blob's bytes lie in a block of F of bytes. -/
def BlobIn (F : Foot) (w : World) (v : Value) (B : List Int) : Prop :=
  BytsAt w v B ∧ (0 < B.length → ∃ g off n c cur f, v = .slice (some ⟨g, off, none⟩) n c ∧ F g ∧ w.heap[g]? = some (Obj.cells cur 5 f))
theorem BlobIn.turn {F F' : Foot} {w w' : World} {v : Value} {B : List Int} (h : BlobIn F w v B) (hk : ∀ g cur f, F g → w.heap[g]? = some (Obj.cells cur 5 f) → w'.heap[g]? = w.heap[g]?) (hF : ∀ g cur f, F g → w.heap[g]? = some (Obj.cells cur 5 f) → F' g) : BlobIn F' w' v B := by
  obtain ⟨hB, hT⟩ := h
  rcases Nat.eq_zero_or_pos B.length with h0 | h0
  · obtain rfl := List.length_eq_zero_iff.1 h0
    refine ⟨.inl ⟨?_, rfl⟩, fun h => absurd h (by simp)⟩
    rcases hB with ⟨h, _⟩ | ⟨g, off, cap, e, _⟩
    · exact h
    · exact ⟨_, _, e⟩
  · obtain ⟨g, off, n, c, cur, f, rfl, hg, ht⟩ := hT h0
    have e := hk g cur f hg ht
    have ht' := e.trans ht
    refine ⟨?_, fun _ => ⟨g, off, n, c, cur, f, rfl, hF g cur f hg ht, ht'⟩⟩
    rcases hB with ⟨_, rfl⟩ | ⟨g', off', cap, e', hc, hlt, hx⟩
    · simp at h0
    · simp only [Value.slice.injEq, Option.some.injEq, Addr.mk.injEq] at e'
      obtain ⟨⟨rfl, rfl, _⟩, rfl, rfl⟩ := e'
      exact .inr ⟨g, off, c, rfl, hc, (Array.getElem?_eq_some_iff.1 ht').1, fun j hj => (World.cell?_of_block (a := ⟨g, off + j, none⟩) e).trans (hx j hj)⟩
theorem BlobIn.wr {F F' X : Foot} {w w' : World} {v : Value} {B : List Int} (h : BlobIn F w v B) (hw : Wr X w w') (hx : ∀ x c f, X x → w.heap[x]? ≠ some (Obj.cells c 5 f)) (hF : ∀ x, F x → F' x) : BlobIn F' w' v B :=
  h.turn (fun g cur f _ ht => hw.block g (Array.getElem?_eq_some_iff.1 ht).1 (fun hX => hx g cur f hX ht)) (fun g _ _ hg _ => hF g hg)
theorem BlobIn.more {F F' : Foot} {w : World} {v : Value} {B : List Int} (h : BlobIn F w v B) (hF : ∀ x, F x → F' x) : BlobIn F' w v B := h.turn (fun _ _ _ _ _ => rfl) (fun g _ _ hg _ => hF g hg)
theorem BlobIn.owned {F : Foot} {w : World} {base : Nat} {v : Value} {B : List Int} (h : w.ownsRow base 5 1 v B.length (bytVs B)) (hF : ∀ g, v.ownBlock = some g → F g) : BlobIn F w v B := by
  refine ⟨byts_of_owned h, fun h0 => ?_⟩
  rcases h.2 with ⟨_, hn⟩ | ⟨g, cap, cur, rfl, hb, hg, _⟩
  · omega
  · exact ⟨g, 0, _, _, cur, _, rfl, hF g rfl, hg⟩
instance good_blob (F : Foot) (w : World) : GoodR (BlobIn F w) where
  form h := GoodR.form h.1
  cut {v B k} h hk := by
    refine ⟨GoodR.cut h.1 hk, fun h0 => ?_⟩
    obtain ⟨g, off, n, c, cur, f, rfl, hg, ht⟩ := h.2 (by simp at h0; omega)
    exact ⟨g, off, _, c, cur, f, rfl, hg, ht⟩
  nil := ⟨BytsAt.nil, fun h => absurd h (by simp)⟩
theorem BlobIn.sl {F : Foot} {w : World} {v : Value} {B : List Int} (h : BlobIn F w v B) : isSl v := by
  obtain ⟨p, c, rfl⟩ := h.1.shape
  exact ⟨_, _, _, rfl⟩
/-- The disk's own row, its maps, what is under way, and the blobs. -/
structure LD (w : World) (F : Foot) (b bl bs : Nat) (vw : Value) (RL RS RW : List Raw) (d : St) : Prop where
  row : RowAt w b #[.int .i64 d.room, .map (some bl), .int .i64 (sumB d.all), .map (some bs), vw, .bool (decide (0 < d.wait)), .int .i64 d.fails] 57
  ml : MapAt w bl RL
  ms : MapAt w bs RS
  way : w.ownsRow 0 73 2 vw RW.length (rawVs RW)
  rl : RelG (BlobIn F w) RL d.all
  rs : RelG (BlobIn F w) RS d.safe
  ru : RelG (BlobIn F w) RW d.under
  fb : F b
  fl : F bl
  fs : F bs
  fw : ∀ g, vw.ownBlock = some g → F g
  ne : bl ≠ bs
  lt : ∀ x, F x → x < w.heap.size
  ty : ∀ x c t f, F x → w.heap[x]? = some (.cells c t f) → ¬ calmT t
def DiskAt (w : World) (F : Foot) (p : Value) (d : St) : Prop := ∃ b bl bs vw RL RS RW, p = .pointer (some ⟨b, 0, none⟩) ∧ LD w F b bl bs vw RL RS RW d
theorem notcalm {t : TypeId} (h : t = 57 ∨ t = 73 ∨ t = 5) : ¬ calmT t := by
  rcases h with rfl | rfl | rfl <;> (unfold calmT; decide)
section
variable {w : World} {F : Foot} {b bl bs : Nat} {vw : Value} {RL RS RW : List Raw} {d : St}
theorem LD.wayT (h : LD w F b bl bs vw RL RS RW d) {g : Nat} (hg : vw.ownBlock = some g) : ∃ cur, w.heap[g]? = some (Obj.cells cur 73 (0, 0)) := by
  rcases h.way.2 with ⟨rfl, _⟩ | ⟨g', cap, cur, rfl, _, ht, _⟩
  · cases hg
  · cases hg; exact ⟨cur, ht⟩
/-- None of its own blocks holds bytes. -/
theorem LD.off (h : LD w F b bl bs vw RL RS RW d) : ∀ x c f, (x = b ∨ x = bl ∨ x = bs ∨ vw.ownBlock = some x) → w.heap[x]? ≠ some (Obj.cells c 5 f) := by
  rintro x c f (rfl | rfl | rfl | hx) e
  · have r := h.row
    unfold RowAt at r
    rw [e] at r
    cases r
  · exact h.ml.nocells e
  · exact h.ms.nocells e
  · obtain ⟨cur, ht⟩ := h.wayT hx
    rw [e] at ht
    cases ht
theorem LD.nb (h : LD w F b bl bs vw RL RS RW d) : bl ≠ b ∧ bs ≠ b ∧ vw.ownBlock ≠ some b ∧ vw.ownBlock ≠ some bl ∧ vw.ownBlock ≠ some bs := by
  refine ⟨?_, ?_, ?_, ?_, ?_⟩
  · rintro rfl; exact h.ml.nocells h.row
  · rintro rfl; exact h.ms.nocells h.row
  · intro e
    obtain ⟨cur, ht⟩ := h.wayT e
    have r := h.row
    unfold RowAt at r
    rw [ht] at r
    cases r
  · intro e
    obtain ⟨cur, ht⟩ := h.wayT e
    exact h.ml.nocells ht
  · intro e
    obtain ⟨cur, ht⟩ := h.wayT e
    exact h.ms.nocells ht
/-- What it is in another world that has its blocks. -/
theorem LD.same {w' : World} (h : LD w F b bl bs vw RL RS RW d) (e : ∀ x, F x → w'.heap[x]? = w.heap[x]?) : LD w' F b bl bs vw RL RS RW d := by
  have hB : ∀ {v : Value} {B : List Int}, BlobIn F w v B → BlobIn F w' v B := fun hb => hb.turn (fun g _ _ hg _ => e g hg) (fun g _ _ hg _ => hg)
  refine ⟨(e b h.fb).trans h.row, h.ml.same (e bl h.fl), h.ms.same (e bs h.fs), ⟨h.way.1, ?_⟩, h.rl.map hB, h.rs.map hB, h.ru.map hB, h.fb, h.fl, h.fs, h.fw, h.ne, fun x hx => ?_, fun x c t f hx ht => h.ty x c t f hx ((e x hx).symm.trans ht)⟩
  · rcases h.way.2 with h1 | ⟨g, cap, cur, rfl, hb, hg, rest⟩
    · exact .inl h1
    · exact .inr ⟨g, cap, cur, rfl, hb, (e g (h.fw g rfl)).trans hg, rest⟩
  · have h1 := e x hx
    have h2 := h.lt x hx
    rw [Array.getElem?_eq_getElem h2] at h1
    exact (Array.getElem?_eq_some_iff.1 h1).1
end
set_option maxHeartbeats 1000000 in
theorem b8_failing (w : World) (b : Nat) (c0 c1 c2 c3 c4 : Value) (fails wait : Int) (hf : 0 ≤ fails ∧ fails ≤ 9223372036854775807) (r : RowAt w b #[c0, c1, c2, c3, c4, .bool (decide (0 < wait)), .int .i64 fails] 57) :
    Calls Try.prog 33 #[.pointer (some ⟨b, 0, none⟩)] w fun e w' => e = .returned (.bool (askF fails wait).2) ∧
      RowAt w' b #[c0, c1, c2, c3, c4, .bool (decide (0 < (askF fails wait).1.2)), .int .i64 (askF fails wait).1.1] 57 ∧ Wr (fun x => x = b) w w' := by
  obtain ⟨f0, f1⟩ := hf
  have R := Lib.hid r
  have zb := r.lt
  have e5 : w.cell? ⟨b, 5, none⟩ = some (.bool (decide (0 < wait))) := by rw [r.cell]; rfl
  have e6 : w.cell? ⟨b, 6, none⟩ = some (.int .i64 fails) := by rw [r.cell]; rfl
  have z5 := r.frozen 5
  have z6 := r.frozen 6
  clear r
  unfold askF
  by_cases h1 : 0 < wait
  · have g1 : decide (0 < wait) = true := by simpa using h1
    rw [if_pos h1]
    rw [g1] at e5
    clear g1 h1
    go_enter Try.func33, Try.ntmps33
    go_wp2
    go_ret
    exact ⟨rfl, R.out.set 5 _, wr_set _ _ _ _⟩
  · have g1 : decide (0 < wait) = false := by simpa using h1
    rw [if_neg h1]
    rw [g1] at e5
    by_cases h2 : 0 < fails
    · have g2 : decide (fails = 0) = false := by simp; omega
      have g4 : (fails == 0) = false := by simp; omega
      have g3 : IntKind.i64.wrap (fails - 1) = fails - 1 := IntWalk.i64_in _ (by omega)
      rw [if_pos h2]
      have G1 := Lib.hid g1
      clear g1 h1 h2
      go_enter Try.func33, Try.ntmps33
      go_wp2
      go_ret
      refine ⟨rfl, ?_, wr_set _ _ _ _⟩
      have := R.out.set 6 (.int .i64 (fails - 1))
      exact this
    · obtain rfl : fails = 0 := by omega
      rw [if_neg h2]
      clear h1 h2
      go_enter Try.func33, Try.ntmps33
      go_wp2
      go_ret
      exact ⟨rfl, R.out, Wr.refl _ _⟩
end Go.Proofs.Ytkephcmjigfepaa
/- The landed disk: Fail, Room, Len, New, Left, the copies of blobs. -/
set_option linter.unusedVariables false
set_option linter.unusedSimpArgs false
namespace Go.Proofs.Ytkephcmjigfepaa
open Go.ChangeShapes Go.WideShapes Go.ChangeAt Go.RowKit
theorem own_raws {w : World} {base : Nat} {t : TypeId} {v : Value} {l : List Raw} (h : w.ownsRow base t 2 v l.length (rawVs l)) : ∃ p cap, v = .slice p l.length cap ∧ (0 < l.length → ∃ g, p = some ⟨g, 0, none⟩ ∧ l.length ≤ cap ∧ g < w.heap.size ∧
    ∀ j (h : j < l.length), w.cell? ⟨g, j * 2, none⟩ = some (.int .i64 l[j].1) ∧ w.cell? ⟨g, j * 2 + 1, none⟩ = some l[j].2) := by
  rcases h.2 with ⟨rfl, hn⟩ | ⟨g, cap, cur, rfl, hb, hg, hc, hm, hs, ht⟩
  · exact ⟨none, 0, by rw [hn], fun h => absurd h (by omega)⟩
  · refine ⟨some ⟨g, 0, none⟩, cap, rfl, fun _ => ⟨g, rfl, hc, (Array.getElem?_eq_some_iff.1 hg).1, fun j hj => ?_⟩⟩
    obtain ⟨h1, h2⟩ := rawVs_at l j hj
    rw [cell_of_row w g _ cur _ (0, 0) hg, cell_of_row w g _ cur _ (0, 0) hg]
    rw [← ht, List.getElem?_take] at h1 h2
    constructor
    · split at h1
      · simpa using h1
      · cases h1
    · split at h2
      · simpa using h2
      · cases h2
theorem b8_fail (w : World) (b : Nat) (c0 c1 c2 c3 c4 c5 c6 : Value) (k : Int) (hk : i64 k) (r : RowAt w b #[c0, c1, c2, c3, c4, c5, c6] 57) :
    Calls Try.prog 16 #[.pointer (some ⟨b, 0, none⟩), .int .i64 k] w fun e w' => (∃ v, e = .returned v) ∧
      RowAt w' b #[c0, c1, c2, c3, c4, .bool (decide (0 < (failF k).2)), .int .i64 (failF k).1] 57 ∧ Wr (fun x => x = b) w w' := by
  obtain ⟨k0, k1⟩ := hk
  have R := Lib.hid r
  have zb := r.lt
  have z5 := r.frozen 5
  have z6 := r.frozen 6
  have e5 : w.cell? ⟨b, 5, none⟩ = some c5 := by rw [r.cell]; rfl
  have e6 : w.cell? ⟨b, 6, none⟩ = some c6 := by rw [r.cell]; rfl
  clear r
  by_cases h1 : k < 0
  · have g1 : decide (k < 0) = true := by simpa using h1
    obtain ⟨M, hM⟩ : ∃ M, max k (-1048576) = M := ⟨_, rfl⟩
    have g2 : IntKind.i64.wrap (-M) = -M := IntWalk.i64_in _ (by omega)
    have e : failF k = (-M, 1) := by
      unfold failF
      rw [if_pos h1]
      simp only [Prod.mk.injEq, and_true]
      omega
    rw [e]
    clear e h1 k0 k1
    go_enter Try.func16, Try.ntmps16
    go_wp2
    refine bodyPost_end (v := .tuple #[]) (by simp [results, Try.results16, go_sem]) rfl ⟨⟨_, rfl⟩, ?_, ((wr_set _ _ _ _).put (.inl rfl) _ _).put (.inl rfl) _ _⟩
    exact (((R.out.set 5 (.bool true)).set 6 (.int .i64 k)).set 6 (.int .i64 (-M)) :)
  · have g1 : decide (k < 0) = false := by simpa using h1
    have e : failF k = (k, 0) := by unfold failF; rw [if_neg h1]
    rw [e]
    clear e h1 k0 k1
    go_enter Try.func16, Try.ntmps16
    go_wp2
    refine bodyPost_end (v := .tuple #[]) (by simp [results, Try.results16, go_sem]) rfl ⟨⟨_, rfl⟩, ?_, (wr_set _ _ _ _).put (.inl rfl) _ _⟩
    exact ((R.out.set 5 (.bool false)).set 6 (.int .i64 k) :)
theorem b8_room (w : World) (b : Nat) (c0 c1 c2 c3 c4 c5 c6 : Value) (r : RowAt w b #[c0, c1, c2, c3, c4, c5, c6] 57) :
    Calls Try.prog 32 #[.pointer (some ⟨b, 0, none⟩)] w fun e w' => e = .returned c0 ∧ Below w.heap.size w w' := by
  have zb := r.lt
  have e0 : w.cell? ⟨b, 0, none⟩ = some c0 := by rw [r.cell]; rfl
  clear r
  go_enter Try.func32, Try.ntmps32
  go_wp2
  go_ret
  exact ⟨rfl, by (repeat (first | with_reducible assumption | with_reducible exact Below.refl _ _ | with_reducible refine Below.drew ?_ | with_reducible refine below_drewN ?_ _ | with_reducible refine al ?_ _ | (with_reducible refine sc ?_ ?_; (focus (first | omega | (simp; done) | (simp; omega)))) | (with_reducible refine chain ?_ (by assumption))))⟩
theorem b8_len (w : World) (b : Nat) (c0 c1 c2 c3 c4 c5 c6 : Value) (r : RowAt w b #[c0, c1, c2, c3, c4, c5, c6] 57) :
    Calls Try.prog 23 #[.pointer (some ⟨b, 0, none⟩)] w fun e w' => e = .returned c2 ∧ Below w.heap.size w w' := by
  have zb := r.lt
  have e0 : w.cell? ⟨b, 2, none⟩ = some c2 := by rw [r.cell]; rfl
  clear r
  go_enter Try.func23, Try.ntmps23
  go_wp2
  go_ret
  exact ⟨rfl, by (repeat (first | with_reducible assumption | with_reducible exact Below.refl _ _ | with_reducible refine Below.drew ?_ | with_reducible refine below_drewN ?_ _ | with_reducible refine al ?_ _ | (with_reducible refine sc ?_ ?_; (focus (first | omega | (simp; done) | (simp; omega)))) | (with_reducible refine chain ?_ (by assumption))))⟩
set_option maxHeartbeats 4000000 in
theorem b8_left (w : World) (b : Nat) (c0 c1 c2 c3 vw c5 c6 : Value) (l : List Raw) (r : RowAt w b #[c0, c1, c2, c3, vw, c5, c6] 57) (hl : w.ownsRow 0 73 2 vw l.length (rawVs l)) (ok : rawOk l) (hL : l.length ≤ 100000) (hS : lenR l ≤ 1000000000000) :
    Calls Try.prog 19 #[.pointer (some ⟨b, 0, none⟩)] w fun e w' => e = .returned (.int .i64 (lenR l)) ∧ Below w.heap.size w w' := by
  obtain ⟨p, cap, rfl, hf⟩ := own_raws hl
  have lt := fun k => lenR_take l k
  have zb := r.lt
  have e4 : w.cell? ⟨b, 4, none⟩ = some (.slice p l.length cap) := by rw [r.cell]; rfl
  obtain ⟨N, hN⟩ : ∃ N, l.length = N := ⟨_, rfl⟩
  obtain ⟨T, hT⟩ : ∃ N, lenR l = N := ⟨_, rfl⟩
  rw [hT] at hS lt
  rw [hT]
  have HN := Lib.hid hN
  have HT := Lib.hid hT
  have OK := Lib.hid ok
  have HF := Lib.hid hf
  have LT := Lib.hid lt
  rw [hN] at hL e4
  clear hN ok hf hl lt hT r
  go_enter Try.func19, Try.ntmps19
  go_wp2_with fail
  go_loopw [3, 5, 11] (fun s _ i wr => ∃ j : Nat, j ≤ N ∧ i = .int .i64 j ∧ s = .int .i64 (lenR (l.take j)) ∧ Below w.heap.size w wr) (fun _ _ i _ => N - (intOf i).toNat)
  case atStart => exact ⟨0, by omega, rfl, by simp [lenR], Below.refl _ _⟩
  case round =>
    obtain ⟨j, hj, rfl, rfl, kw⟩ := hrel
    by_cases hlt : j < N
    · have hlt2 : j < l.length := by rw [HN.out]; exact hlt
      have e : lenR (l.take (j + 1)) = lenR (l.take j) + slLen l[j].2 := by rw [take_succ_get l j hlt2, lenR_append]; simp [lenR]
      obtain ⟨g, rfl, hc, zg0, hx⟩ := HF.out (by omega)
      obtain ⟨h0, h1⟩ := hx j hlt2
      obtain ⟨okk, xp, xn, xc, hxs⟩ := OK.out _ (List.getElem_mem hlt2)
      have b1 := LT.out (j + 1)
      have b0 := LT.out j
      rw [hxs] at h1 e
      have e2 : lenR (l.take (j + 1)) = lenR (l.take j) + xn := e
      rw [e2] at b1
      obtain ⟨S, hSj⟩ : ∃ S, lenR (l.take j) = S := ⟨_, rfl⟩
      rw [hSj] at e2 b1 b0 ⊢
      obtain ⟨xk, hxk⟩ : ∃ x, l[j].1 = x := ⟨_, rfl⟩
      rw [hxk] at h0
      have E2 := Lib.hid e2
      have wS : IntKind.i64.wrap ((S : Int) + (xn : Int)) = (S : Int) + xn := IntWalk.i64_in _ (by omega)
      have d0 := keepc kw zg0 h0
      have d1 := keepc kw zg0 h1
      have zg := size_lt zg0 kw
      clear hx hxs e e2 hSj hxk okk hc hlt2 h0 h1
      go_wp2_with fail
      go_roundw
      case rel => exact ⟨j + 1, by omega, by go_num, by rw [E2.out]; go_num, al kw _⟩
      case measure => simp [intOf]; omega
    · obtain rfl : j = N := by omega
      have e : l.take j = l := by rw [← HN.out, List.take_length]
      rw [e, HT.out]
      clear e
      go_wp2_with fail
      go_ret
      exact ⟨rfl, kw⟩
theorem b8_clone (v : Value) (B : List Int) (w : World) (h : BytsAt w v B) (hB : B.length ≤ 1000000000) : Calls Try.prog 34 #[v] w fun e w' => ∃ v', e = .returned v' ∧ w'.ownsRow w.heap.size 5 1 v' B.length (bytVs B) ∧ Below w.heap.size w w' := by
  obtain ⟨p, c, rfl, hf⟩ := h.form
  rcases p with _ | a
  · obtain rfl : B = [] := by
      rcases Nat.eq_zero_or_pos B.length with h0 | h0
      · exact List.length_eq_zero_iff.1 h0
      · obtain ⟨g, off, e, _⟩ := hf h0; cases e
    refine (Try.bytes_Clone_nil _ _ w).mono ?_
    rintro e w' ⟨rfl, rfl⟩
    exact ⟨_, rfl, World.ownsRow_nil _ _ _ _, Below.refl _ _⟩
  · refine (Try.bytes_Clone_at a B.length c B w rfl (by omega) (fun i hi => ?_)).mono ?_
    · obtain ⟨g, off, e, _, _, hx⟩ := hf (by omega)
      cases e
      rw [Addr.add_lit]
      rw [hx i hi]
      simp [List.getD_eq_getElem?_getD, hi]
    · rintro e w' ⟨v', rfl, ho, _, hb⟩
      exact ⟨v', rfl, ho, hb⟩
end Go.Proofs.Ytkephcmjigfepaa
/- The landed disk: New. -/
set_option linter.unusedVariables false
set_option linter.unusedSimpArgs false
namespace Go.Proofs.Ytkephcmjigfepaa
open Go.ChangeShapes Go.WideShapes Go.ChangeAt Go.RowKit
theorem heap_at_alloc (w : World) (o : Obj) : (w.alloc o).heap[w.heap.size]? = some o := by
  show (w.heap.push o)[w.heap.size]? = _
  simp
theorem new_blocks {w w' : World} {m n : Nat} (hm : m = w.heap.size + 1) (hn : n = w.heap.size + 2) (cs : Array Value) (t : TypeId) (e : w' = ((w.alloc (.map #[] 0)).alloc (.map #[] 0)).alloc (.cells cs t)) :
    MapAt w' w.heap.size [] ∧ MapAt w' m [] ∧ RowAt w' n cs t ∧ w'.heap.size = w.heap.size + 3 ∧ Below w.heap.size w w' := by
  subst hm hn e
  have s1 : (w.alloc (.map #[] 0)).heap.size = w.heap.size + 1 := by simp
  have s2 : ((w.alloc (.map #[] 0)).alloc (.map #[] 0)).heap.size = w.heap.size + 2 := by simp
  have m1 := MapAt.new w
  have m2 := MapAt.new (w.alloc (.map #[] 0))
  rw [s1] at m2
  have r3 := RowAt.new ((w.alloc (.map #[] 0)).alloc (.map #[] 0)) cs t
  rw [s2] at r3
  refine ⟨(m1.keep (al (Below.refl _ _) _)).keep (al (Below.refl _ _) _), m2.keep (al (Below.refl _ _) _), r3, by simp, al (al (al (Below.refl _ _) _) _) _⟩
theorem LD.new {w w' : World} {m n : Nat} (hm : m = w.heap.size + 1) (hn : n = w.heap.size + 2) (room : Int)
    (e : w' = ((w.alloc (.map #[] 0)).alloc (.map #[] 0)).alloc (.cells #[.int .i64 (min (max room 0) 1048576), .map (some w.heap.size), .int .i64 0, .map (some m), .slice none 0 0, .bool false, .int .i64 0] 57)) :
    LD w' (fun x => w.heap.size ≤ x ∧ x < w.heap.size + 3) n w.heap.size m (.slice none 0 0) [] [] [] (newSt room) := by
  obtain ⟨m1, m2, r, hs, hb⟩ := new_blocks hm hn _ _ e
  refine ⟨r, m1, m2, World.ownsRow_nil _ _ _ _, .nil, .nil, .nil, by omega, by omega, by omega, fun g hg => (by cases hg), by omega, fun x hx => by omega, fun x c t f hx ht => ?_⟩
  have h3 : x = w.heap.size ∨ x = m ∨ x = n := by omega
  rcases h3 with rfl | rfl | rfl
  · exact (m1.nocells ht).elim
  · exact (m2.nocells ht).elim
  · unfold RowAt at r
    rw [ht] at r
    simp only [Option.some.injEq, Obj.cells.injEq] at r
    exact notcalm (.inl r.2.1)
theorem b8_new (room : Int) (w : World) (hr : i64 room) : Calls Try.prog 10 #[.int .i64 room] w fun e w' => ∃ p F, e = .returned p ∧ DiskAt w' F p (newSt room) ∧ (∀ b, F b → w.heap.size ≤ b) ∧ Below w.heap.size w w' := by
  have hmm := @run_makeMap Try.prog
  obtain ⟨M, hM⟩ : ∃ M, min (max room 0) 1048576 = M := ⟨_, rfl⟩
  have hL := fun (w' : World) (m n : Nat) (hm : m = w.heap.size + 1) (hn : n = w.heap.size + 2) (e : w' = _) => LD.new (w := w) (w' := w') (m := m) (n := n) hm hn room e
  rw [hM] at hL
  have HL := Lib.hid hL
  clear hL
  go_enter Try.func10, Try.ntmps10
  go_wp2
  go_ret
  have hL := HL.out _ (w.heap.size + 1) _ rfl rfl rfl
  exact ⟨_, _, rfl, ⟨_, _, _, _, _, _, _, rfl, hL⟩, fun b hb => hb.1, al (al (al (Below.refl _ _) _) _) _⟩
end Go.Proofs.Ytkephcmjigfepaa
/- The landed disk: write. -/
set_option linter.unusedVariables false
set_option linter.unusedSimpArgs false
namespace Go.Proofs.Ytkephcmjigfepaa
open Go.ChangeShapes Go.WideShapes Go.ChangeAt Go.RowKit
/-- What write leaves. -/
def WroteTo (w w' : World) (F : Foot) (b bl bs : Nat) (S U : Blobs) (cs : Array Value) (K : Nat) : Prop :=
  ∃ R G, RowAt w' b cs 57 ∧ MapAt w' bs R ∧ RelG (BlobIn G w') R (crashGo List.length cutB S K U) ∧ Wr (fun x => x = b ∨ x = bs) w w' ∧ (∀ x, F x → G x) ∧
    (∀ x, G x → F x ∨ (w.heap.size ≤ x ∧ x < w'.heap.size ∧ ∃ cur f, w'.heap[x]? = some (Obj.cells cur 5 f)))
theorem own_mono {w : World} {base base' : Nat} {e : TypeId} {size n : Nat} {v : Value} {xs : List Value} (h : w.ownsRow base e size v n xs) (hb : base' ≤ base) : w.ownsRow base' e size v n xs := by
  refine ⟨h.1, ?_⟩
  rcases h.2 with h1 | ⟨g, cap, cur, hv, hb2, rest⟩
  · exact .inl h1
  · exact .inr ⟨g, cap, cur, hv, Nat.le_trans hb hb2, rest⟩
theorem wrote_full {w wr : World} {F : Foot} {b bl bs : Nat} {vw : Value} {RL RS RW R : List Raw} {d : St} (h : LD w F b bl bs vw RL RS RW d) (hw : Wr (fun x => x = bs) w wr) (hM : MapAt wr bs R) {K : Nat} (hR : RelG (BlobIn F w) R (crashGo List.length cutB d.safe K d.under)) :
    WroteTo w (wr.setCell ⟨b, 4, none⟩ (.slice none 0 0)) F b bl bs d.safe d.under #[.int .i64 d.room, .map (some bl), .int .i64 (sumB d.all), .map (some bs), .slice none 0 0, .bool (decide (0 < d.wait)), .int .i64 d.fails] K := by
  obtain ⟨n1, n2, n3, n4, n5⟩ := h.nb
  have hw2 : Wr (fun x => x = b ∨ x = bs) w (wr.setCell ⟨b, 4, none⟩ (.slice none 0 0)) := (hw.mono fun x hx => .inr hx).put (.inl (.inl rfl)) 4 _
  refine ⟨R, F, (hw.row h.row (fun e => n2 e.symm)).set 4 _, hM.same (Below.heap_setCell wr ⟨b, 4, none⟩ _ bs n2), hR.map fun hb => hb.wr hw2 (fun x c f hx => h.off x c f (by rcases hx with hx | hx; exact .inl hx; exact .inr (.inr (.inl hx)))) (fun _ h => h), hw2, fun _ h => h, fun x hx => .inl hx⟩
theorem wrote_cut {w wr : World} {F : Foot} {b bl bs : Nat} {vw v : Value} {RL RS RW R : List Raw} {d : St} (h : LD w F b bl bs vw RL RS RW d) (ok : Srt d.safe) (hw : Wr (fun x => x = bs) w wr) {K j : Nat} (hj : j < d.under.length)
    {k : Int} (hk : k = d.under[j].1) (hM : MapAt wr bs (insF R (k, v))) (hR : RelG (BlobIn F w) R (nowF d.safe (d.under.take j))) (h1 : sumB (d.under.take j) ≤ K) (h2 : K - sumB (d.under.take j) < d.under[j].2.length)
    (hv : wr.ownsRow w.heap.size 5 1 v (d.under[j].2.take (K - sumB (d.under.take j))).length (bytVs (d.under[j].2.take (K - sumB (d.under.take j))))) :
    WroteTo w (wr.setCell ⟨b, 4, none⟩ (.slice none 0 0)) F b bl bs d.safe d.under #[.int .i64 d.room, .map (some bl), .int .i64 (sumB d.all), .map (some bs), .slice none 0 0, .bool (decide (0 < d.wait)), .int .i64 d.fails] K := by
  obtain ⟨n1, n2, n3, n4, n5⟩ := h.nb
  have hw2 : Wr (fun x => x = b ∨ x = bs) w (wr.setCell ⟨b, 4, none⟩ (.slice none 0 0)) := (hw.mono fun x hx => .inr hx).put (.inl (.inl rfl)) 4 _
  have hb := h.row.lt
  have hlt := hv.lt
  have hv2 : (wr.setCell ⟨b, 4, none⟩ (.slice none 0 0)).ownsRow w.heap.size 5 1 v (d.under[j].2.take (K - sumB (d.under.take j))).length (bytVs (d.under[j].2.take (K - sumB (d.under.take j)))) := by
    refine ⟨hv.1, ?_⟩
    rcases hv.2 with h1 | ⟨g, cap, cur, rfl, hb2, hg, rest⟩
    · exact .inl h1
    · exact .inr ⟨g, cap, cur, rfl, hb2, (Below.heap_setCell wr ⟨b, 4, none⟩ _ g (by show g ≠ b; omega)).trans hg, rest⟩
  have hs : Srt R := rel_srt hR ok.now
  subst hk
  refine ⟨insF R (d.under[j].1, v), fun x => F x ∨ v.ownBlock = some x, (hw.row h.row (fun e => n2 e.symm)).set 4 _, hM.same (Below.heap_setCell wr ⟨b, 4, none⟩ _ bs n2), ?_, hw2, fun _ h => .inl h, fun x hx => hx.elim .inl fun e => ?_⟩
  · rw [crash_cut _ _ _ _ hj h1 h2, ← layF_ins _ hs]
    refine RelG.lay (hR.map fun hb => hb.wr hw2 (fun x c f hx => h.off x c f (by rcases hx with hx | hx; exact .inl hx; exact .inr (.inr (.inl hx)))) (fun _ h => .inl h)) (BlobIn.owned hv2 fun g hg => .inr hg)
  · obtain ⟨l1, l2⟩ := hv2.lt x e
    refine .inr ⟨l1, l2, ?_⟩
    rcases hv2.2 with ⟨rfl, _⟩ | ⟨g, cap, cur, rfl, _, hg, _⟩
    · cases e
    · cases e
      exact ⟨cur, _, hg⟩
theorem bytes_to {g off xn xc M : Nat} (h0 : 0 < xc) (h : M ≤ xc) (u : World) :
    (Instr.sliceAt 32 (.slice (some ⟨g, off, none⟩) xn xc) none (some (.int .i64 (M : Int))) none).run Try.prog u = .ok (.slice (some ⟨g, off, none⟩) M xc) u := by
  have hs : Try.prog.cellsOf 5 = 1 := by kernel_rfl
  have h2 : ¬ 0 = xc := by omega
  have h3 : ¬ xc = 0 := by omega
  simp [go_sem, *]
set_option maxRecDepth 10000 in
set_option maxHeartbeats 8000000 in
theorem b8_write (w : World) (F : Foot) (b bl bs : Nat) (vw : Value) (RL RS RW : List Raw) (d : St) (n m : Nat) (h : LD w F b bl bs vw RL RS RW d) (ok : StOk d n m) (hn : n ≤ 30000) (hm : m ≤ 50000000) (k : Nat) (hk : k ≤ 9223372036854775807) :
    Calls Try.prog 35 #[.pointer (some ⟨b, 0, none⟩), .int .i64 k] w fun e w' => (∃ v, e = .returned v) ∧
      WroteTo w w' F b bl bs d.safe d.under #[.int .i64 d.room, .map (some bl), .int .i64 (sumB d.all), .map (some bs), .slice none 0 0, .bool (decide (0 < d.wait)), .int .i64 d.fails] k := by
  obtain ⟨n1, n2, n3, n4, n5⟩ := h.nb
  have len := h.ru.len
  have okr := h.ru.ok ok.ru
  have at' := rel_nth h.ru
  have hfull := fun (wr : World) (R : List Raw) (hw : Wr (fun x => x = bs) w wr) (hM : MapAt wr bs R) => wrote_full h hw hM (K := k)
  have hcut := fun (wr : World) (R : List Raw) (v : Value) (q : Int) (hw : Wr (fun x => x = bs) w wr) (j : Nat) (hj : j < d.under.length) => wrote_cut (v := v) (R := R) (K := k) (k := q) h ok.srt hw hj
  have hlen := ok.len
  have hsum := ok.sum
  have hsrt := ok.srt
  have hkeys := ok.keyU
  have hall : ∀ j, (nowF d.safe (d.under.take j)).length ≤ 30000 := fun j => by
    have e1 := nowF_len d.safe (d.under.take j) (d.under.take j).length (Nat.le_refl _)
    rw [List.take_length, List.length_take] at e1
    omega
  have off := h.off
  obtain ⟨p, cap, rfl, hf⟩ := own_raws h.way
  have r := h.row
  have zb := r.lt
  have e3 : w.cell? ⟨b, 3, none⟩ = some (.map (some bs)) := by rw [r.cell]; rfl
  have e4 : w.cell? ⟨b, 4, none⟩ = some (.slice p RW.length cap) := by rw [r.cell]; rfl
  have z4 := r.frozen 4
  have ms := h.ms
  have rs := h.rs
  obtain ⟨N, hN⟩ : ∃ N, RW.length = N := ⟨_, rfl⟩
  rw [hN] at e4
  have hU : d.under.length = N := by rw [← len, hN]
  have HN := Lib.hid hN
  have HU := Lib.hid hU
  have HF := Lib.hid hf
  have OK := Lib.hid okr
  have AT := Lib.hid at'
  have FULL := Lib.hid hfull
  have CUT := Lib.hid hcut
  have ALL := Lib.hid hall
  have KEYS := Lib.hid hkeys
  have R0 := Lib.hid r
  have HH := Lib.hid h
  have N2 := Lib.hid n2
  have N5 := Lib.hid n5
  have SRT := Lib.hid hsrt
  have RS0 := Lib.hid rs
  have MS := Lib.hid ms
  clear n1 n3 n4 n5 len okr at' hfull hcut hf hN hU hall hkeys off r hsrt n2 ok rs ms
  clear h
  go_enter Try.func35, Try.ntmps35
  go_wp2_with fail
  go_loopw [1, 5, 11] (fun s _ i wr => ∃ j : Nat, j ≤ N ∧ i = .int .i64 j ∧ sumB (d.under.take j) ≤ k ∧ s = .int .i64 ((k - sumB (d.under.take j) : Nat) : Int) ∧ ∃ R, MapAt wr bs R ∧ RelG (BlobIn F w) R (nowF d.safe (d.under.take j)) ∧ Wr (fun x => x = bs) w wr) (fun _ _ i _ => N - (intOf i).toNat)
  case atStart => exact ⟨0, by omega, rfl, by simp [sumB], by simp [sumB], RS, MS.out, RS0.out, Wr.refl _ _⟩
  case round =>
    obtain ⟨j, hj, rfl, hle, rfl, R, hM, hR, kw⟩ := hrel
    have row := kw.row R0.out (fun e => N2.out e.symm)
    have zb2 : b < wr.heap.size := row.lt
    have c3 : wr.cell? ⟨b, 3, none⟩ = some (.map (some bs)) := by rw [row.cell]; rfl
    have c4 := row.frozen 4
    have c5 : wr.cell? ⟨b, 4, none⟩ = some (.slice p RW.length cap) := by rw [row.cell]; rfl
    by_cases hlt : j < N
    · have hjw : j < RW.length := by rw [HN.out]; exact hlt
      have hju : j < d.under.length := by rw [HU.out]; exact hlt
      obtain ⟨g, rfl, hc, zg0, hx⟩ := HF.out (by omega)
      obtain ⟨h0, h1⟩ := hx j hjw
      obtain ⟨okk, xp, xn, xc, hxs⟩ := OK.out _ (List.getElem_mem hjw)
      obtain ⟨ek, hB⟩ := AT.out j hjw hju
      have hnext := sumB_next d.under j hju
      have htk := sumB_take d.under (j + 1)
      have hcut := CUT.out
      have hnf := nowF_next d.safe d.under j hju
      have hsr : Srt R := rel_srt hR SRT.out.now
      have hRl : R.length ≤ 30000 := by rw [hR.len]; exact ALL.out j
      have hlenB := gr_len hB
      rw [hxs] at h1 hlenB hB
      have hlenB : xn = d.under[j].2.length := hlenB
      rw [← hlenB] at hnext
      have hik := (KEYS.out _ (List.getElem_mem hju)).1
      rw [← ek] at hik
      have hgb : g ≠ bs := fun e => N5.out (by rw [e]; rfl)
      have eg := kw.block g zg0 hgb
      have d0 : wr.cell? ⟨g, j * 2, none⟩ = some (.int .i64 RW[j].1) := (World.cell?_of_block (a := ⟨g, j * 2, none⟩) eg).trans h0
      have d1 : wr.cell? ⟨g, j * 2 + 1, none⟩ = some (.slice xp xn xc) := (World.cell?_of_block (a := ⟨g, j * 2 + 1, none⟩) eg).trans h1
      have zg : g < wr.heap.size := Nat.lt_of_lt_of_le zg0 kw.size
      have hcN : N ≤ cap := by rw [← HN.out]; exact hc
      have hcutj := hcut wr
      obtain ⟨xk, hxk⟩ : ∃ x, RW[j].1 = x := ⟨_, rfl⟩
      rw [hxk] at d0 ek hik
      obtain ⟨M, hM0⟩ : ∃ M, k - sumB (d.under.take j) = M := ⟨_, rfl⟩
      have HM0 := Lib.hid hM0
      obtain ⟨u1, hu⟩ : ∃ u, wr.alloc (.cells #[.int .i64 xk, .slice xp xn xc] 73) = u := ⟨_, rfl⟩
      have k1 : Wr (fun x => x = bs) w u1 := by rw [← hu]; exact kw.alloc _
      have rv : RowAt u1 wr.heap.size #[.int .i64 xk, .slice xp xn xc] 73 := by rw [← hu]; exact RowAt.new wr _ _
      have hM1 : MapAt u1 bs R := by rw [← hu]; exact hM.keep (al (Below.refl _ _) _)
      have row1 := row.alloc (Obj.cells #[.int .i64 xk, .slice xp xn xc] 73)
      rw [hu] at row1
      have HU1 := Lib.hid hu
      rw [hM0]
      have K1 := Lib.hid k1
      have HM1 := Lib.hid hM1
      have HR := Lib.hid hR
      have EK := Lib.hid ek
      have HB := Lib.hid hB
      have HNX := Lib.hid hnext
      have HTK := Lib.hid htk
      have HNF := Lib.hid hnf
      have HSR := Lib.hid hsr
      have HLB := Lib.hid hlenB
      have HLE := Lib.hid hle
      have hmk : M ≤ k := by omega
      have zw : wr.heap.size ≠ bs := fun e => by have := hM.lt; omega
      clear k1 hM1 hR hxk ek hB hnext htk hnf hsr hlenB hle hcut hcutj hM hu hM0 hx h0 h1 hxs okk hjw hc eg hgb zg0
      by_cases hcut : M < xn
      · have g1 : decide ((M : Int) < (xn : Int)) = true := by simpa using hcut
        obtain ⟨p', c', e', hf'⟩ := HB.out.1.form
        simp only [Value.slice.injEq] at e'
        obtain ⟨rfl, e9, rfl⟩ := e'
        clear e9
        obtain ⟨g', off', rfl, hcc, hg', _⟩ := hf' (by rw [← HLB.out]; omega)
        have hxc : xn ≤ xc := by rw [HLB.out]; exact hcc
        have hrun := fun u => bytes_to (g := g') (off := off') (xn := xn) (M := M) (xc := xc) (by omega) (by omega) u
        have hB := HB.out.1.take (k := M) (by omega)
        have hBl : (d.under[j].2.take M).length ≤ 1000000000 := by
          rw [List.length_take]
          have h1 := sumB_next d.under j hju
          have h2 := sumB_take d.under (j + 1)
          omega
        have HBT := Lib.hid hB
        have HBL := Lib.hid hBl
        clear hcc hf' hg' hB hBl
        go_upto_region 4 with (fail)
        rw [HU1.out]
        clear d0 d1 c3 c4 c5 zb2
        have c3 : u1.cell? ⟨b, 3, none⟩ = some (.map (some bs)) := by rw [row1.cell]; rfl
        have v0 : u1.cell? ⟨wr.heap.size, 0, none⟩ = some (.int .i64 xk) := by rw [rv.cell]; rfl
        have v1 : u1.cell? ⟨wr.heap.size, 1, none⟩ = some (.slice (some ⟨g', off', none⟩) xn xc) := by rw [rv.cell]; rfl
        have zb2 : b < u1.heap.size := row1.lt
        have zv : wr.heap.size < u1.heap.size := rv.lt
        clear row1
        refine region_plan 11 (.calm 0 (.calm 1 (.calm 2 (.calm 3 (.calm 4 (.calm 5 (.calm 6 (.calm 7 (.calm 8 (.calm 9 (.one 10 (.one 11 (.done))))))))))))) (by kernel_rfl) (by kernel_rfl) (by kernel_rfl) rfl (by kernel_rfl) (fun c a d v w h => by cases d <;> exact h) ?_
        intro u3 hu3 hszu3
        repeat (first | (refine' PlanW.skip (by rfl) (by rfl) ?_; simp only [Act.put, List.getElem_toArray, List.getElem_cons_zero, List.getElem_cons_succ, List.setIfInBounds_toArray, List.set_cons_zero, List.set_cons_succ]) | (refine' PlanW.val (by rfl) (by rfl) (fun wr hr => ?_) ?_; rotate_left 1; (focus (obtain ⟨hrc, hrf⟩ := bcell hr; (go_simp <;> with_reducible rfl); done)); simp only [Act.put, List.getElem_toArray, List.getElem_cons_zero, List.getElem_cons_succ, List.setIfInBounds_toArray, List.set_cons_zero, List.set_cons_succ]))
        refine PlanW.one (by rfl) ?_
        have k3 := K1.out.below hu3
        go_wp2_with fail
        have hBu := (HB.out.wr k3 (fun x c f hx => HH.out.off x c f (.inr (.inr (.inl hx)))) (fun _ h => h)).1.take (k := M) (by omega)
        refine (b8_clone _ _ u3 hBu HBL.out).mono ?_
        rintro e w4 ⟨v4, rfl, ho, hb4⟩
        have hu4 := chain hu3 hb4
        have k4 := K1.out.below hu4
        obtain ⟨pv, cv, hv4⟩ := own_form ho
        have HV4 := Lib.hid hv4
        clear hv4
        go_wp2_with fail
        refine ⟨.inr hu4, ?_⟩
        refine PlanW.one (by rfl) ?_
        refine wp_upd _ rfl _ _ _ rfl bs R rfl (HM1.out.keep hu4) HSR.out (by omega) xk rfl hik v4 rfl ⟨_, _, _, HV4.out⟩ ?_
        intro w5 hM5 hg5 hs5
        go_wp2_with fail
        refine ⟨by first | trivial | exact .inl rfl, PlanW.done ?_⟩
        have k5 : Wr (fun x => x = bs) w w5 := k4.grown hg5 (fun q e => by cases e; exact .inl rfl)
        have hv5 : w5.ownsRow w.heap.size 5 1 v4 (d.under[j].2.take M).length (bytVs (d.under[j].2.take M)) := by
          have h1 := own_mono ho (Nat.le_trans K1.out.size hu3.size)
          refine ⟨h1.1, ?_⟩
          rcases ho.2 with h2 | ⟨q, cap', cur', e2, hb2, hq, rest⟩
          · exact .inl h2
          · have zbs := (HM1.out.keep hu3).lt
            exact .inr ⟨q, cap', cur', e2, Nat.le_trans (Nat.le_trans K1.out.size hu3.size) hb2, (hg5.block q (Array.getElem?_eq_some_iff.1 hq).1 (fun e => by cases e; omega)).trans hq, rest⟩
        have row5 := k5.row R0.out (fun e => N2.out e.symm)
        have fin := CUT.out w5 R v4 xk k5 j hju EK.out hM5 HR.out HLE.out (by rw [HM0.out, ← HLB.out]; exact hcut) (by rw [HM0.out]; exact hv5)
        have FIN := Lib.hid fin
        clear c3 v0 v1 zb2 zv hu3 k3 hBu ho hb4 hu4 k4 hM5 hg5 hs5 k5 hv5 fin rv
        have c4 := row5.frozen 4
        have c5 : w5.cell? ⟨b, 4, none⟩ = some (.slice (some ⟨g, 0, none⟩) RW.length cap) := by rw [row5.cell]; rfl
        have zb2 : b < w5.heap.size := row5.lt
        clear row5
        go_wp2_with fail
        exact bodyPost_end (v := .tuple #[]) (by simp [results, Try.results35, go_sem]) rfl ⟨⟨_, rfl⟩, FIN.out⟩
      · have g1 : decide ((M : Int) < (xn : Int)) = false := by simpa using hcut
        have g2 : IntKind.i64.wrap ((M : Int) - (xn : Int)) = (M : Int) - xn := IntWalk.i64_in _ (by omega)
        go_upto_region 5 with (fail)
        rw [HU1.out]
        clear d0 d1 c3 c4 c5 zb2
        have c3 : u1.cell? ⟨b, 3, none⟩ = some (.map (some bs)) := by rw [row1.cell]; rfl
        have v0 : u1.cell? ⟨wr.heap.size, 0, none⟩ = some (.int .i64 xk) := by rw [rv.cell]; rfl
        have v1 : u1.cell? ⟨wr.heap.size, 1, none⟩ = some (.slice xp xn xc) := by rw [rv.cell]; rfl
        have zb2 : b < u1.heap.size := row1.lt
        have zv : wr.heap.size < u1.heap.size := rv.lt
        clear row1
        refine region_below 8 (by kernel_rfl) (by kernel_rfl) ?_
        simp only [List.take_succ_cons, List.take_zero, List.drop_succ_cons, List.drop_zero]
        repeat (first | (refine' InText.skip (by rfl) ?_; simp only [Act.put, List.setIfInBounds_toArray, List.set_cons_zero, List.set_cons_succ]) | (refine' InText.val (by rfl) (fun wr hr => ?_) ?_; rotate_left 1; (focus (obtain ⟨hrc, hrf⟩ := bcell hr; (go_simp <;> with_reducible rfl); done)); simp only [Act.put, List.setIfInBounds_toArray, List.set_cons_zero, List.set_cons_succ]))
        refine fun wrs hrs => ?_
        obtain ⟨hrcs, hrfs⟩ := bcell hrs
        refine wp_upd _ rfl _ _ _ rfl bs R rfl (HM1.out.keep hrs) HSR.out (by omega) xk rfl hik _ rfl ⟨_, _, _, rfl⟩ ?_
        intro w3 hM3 hg3 hs3
        have kS := K1.out.below hrs
        have k3 : Wr (fun x => x = bs) w w3 := kS.grown hg3 (fun q e => by cases e; exact .inl rfl)
        have rv3 : RowAt w3 wr.heap.size #[.int .i64 xk, .slice xp xn xc] 73 := (hg3.block _ (rv.keep hrs).lt (fun e => zw (by cases e; rfl))).trans (rv.keep hrs)
        clear c3 v0 v1 zb2 zv hrs hrcs hrfs rv hg3
        have v1 : w3.cell? ⟨wr.heap.size, 1, none⟩ = some (.slice xp xn xc) := by rw [rv3.cell]; rfl
        have zv : wr.heap.size < w3.heap.size := rv3.lt
        go_wp2_with fail
        go_roundw
        case rel =>
          have hlast : R = R := rfl
          refine ⟨j + 1, by omega, by go_num, ?_, ?_, insF R (xk, .slice xp xn xc), hM3, ?_, k3⟩
          · rw [HNX.out]; have := HM0.out; have := HLE.out; omega
          · rw [HNX.out]; have := HM0.out; have := HLE.out; congr 1; omega
          · rw [HNF.out, ← layF_ins _ HSR.out]
            have e := EK.out
            have hp : d.under[j] = (xk, d.under[j].2) := by rw [e]
            rw [hp]
            exact HR.out.lay HB.out
        case measure => simp [intOf]; omega
    · obtain rfl : j = N := by omega
      have e : d.under.take j = d.under := by rw [← HU.out, List.take_length]
      rw [e] at hle hR
      have fin := FULL.out wr R kw hM (by rw [crash_full _ _ _ hle]; exact hR)
      have FIN := Lib.hid fin
      clear hle hR hM kw row fin e
      go_wp2_with fail
      exact bodyPost_end (v := .tuple #[]) (by simp [results, Try.results35, go_sem]) rfl ⟨⟨_, rfl⟩, FIN.out⟩
end Go.Proofs.Ytkephcmjigfepaa
/- The landed disk: words of whole states; Sync, Get, Keys. -/
set_option linter.unusedVariables false
set_option linter.unusedSimpArgs false
namespace Go.Proofs.Ytkephcmjigfepaa
open Go.ChangeShapes Go.WideShapes Go.ChangeAt Go.RowKit
theorem LD.make {w w' : World} {F F' X : Foot} {b bl bs bl' : Nat} {vw vw' : Value} {RL RS RW RL' RS' RW' : List Raw} {d d' : St} (h : LD w F b bl bs vw RL RS RW d) (hw : Wr X w w')
    (hX : ∀ x, X x → F' x → ∀ c t f, w'.heap[x]? = some (Obj.cells c t f) → ¬ calmT t)
    (row' : RowAt w' b #[.int .i64 d'.room, .map (some bl'), .int .i64 (sumB d'.all), .map (some bs), vw', .bool (decide (0 < d'.wait)), .int .i64 d'.fails] 57)
    (ml' : MapAt w' bl' RL') (ms' : MapAt w' bs RS') (way' : w'.ownsRow 0 73 2 vw' RW'.length (rawVs RW')) (rl' : RelG (BlobIn F' w') RL' d'.all) (rs' : RelG (BlobIn F' w') RS' d'.safe) (ru' : RelG (BlobIn F' w') RW' d'.under)
    (fb : F' b) (fl : F' bl') (fs : F' bs) (fw : ∀ g, vw'.ownBlock = some g → F' g) (ne : bl' ≠ bs)
    (hN : ∀ x, F' x → F x ∨ (w.heap.size ≤ x ∧ x < w'.heap.size ∧ ∀ c t f, w'.heap[x]? = some (Obj.cells c t f) → ¬ calmT t)) : LD w' F' b bl' bs vw' RL' RS' RW' d' := by
  refine ⟨row', ml', ms', way', rl', rs', ru', fb, fl, fs, fw, ne, fun x hx => ?_, fun x c t f hx ht => ?_⟩
  · rcases hN x hx with h1 | h1
    · exact Nat.lt_of_lt_of_le (h.lt x h1) hw.size
    · exact h1.2.1
  · by_cases hXx : X x
    · exact hX x hXx hx c t f ht
    · rcases hN x hx with h1 | h1
      · exact h.ty x c t f h1 ((hw.block x (h.lt x h1) hXx).symm.trans ht)
      · exact h1.2.2 c t f ht
section
variable {w w' : World} {F : Foot} {b bl bs : Nat} {vw : Value} {RL RS RW : List Raw} {d d' : St}
theorem row_ty {w : World} {b : Nat} {cs : Array Value} (r : RowAt w b cs 57) {c : Array Value} {t : TypeId} {f : Nat × Nat} (h : w.heap[b]? = some (Obj.cells c t f)) : ¬ calmT t := by
  unfold RowAt at r
  rw [h] at r
  simp only [Option.some.injEq, Obj.cells.injEq] at r
  exact notcalm (.inl r.2.1)
/-- Its row alone is written. -/
theorem LD.turn (h : LD w F b bl bs vw RL RS RW d) (hw : Wr (fun x => x = b) w w') (r : RowAt w' b #[.int .i64 d'.room, .map (some bl), .int .i64 (sumB d.all), .map (some bs), vw, .bool (decide (0 < d'.wait)), .int .i64 d'.fails] 57)
    (e1 : d'.safe = d.safe) (e2 : d'.under = d.under) : LD w' F b bl bs vw RL RS RW d' := by
  obtain ⟨n1, n2, n3, n4, n5⟩ := h.nb
  have ea : d'.all = d.all := by unfold St.all; rw [e1, e2]
  have hB : ∀ {v : Value} {B : List Int}, BlobIn F w v B → BlobIn F w' v B := fun hb => hb.wr hw (fun x c f hx => h.off x c f (.inl hx)) (fun _ h => h)
  refine h.make hw (fun x hx _ c t f ht => by cases hx; exact row_ty r ht) (by rw [ea]; exact r) (h.ml.same (hw.block bl h.ml.lt n1)) (h.ms.same (hw.block bs h.ms.lt n2)) (hw.own h.way (fun g hg e => n3 (by rw [hg, e]))) (by rw [ea]; exact h.rl.map hB) (by rw [e1]; exact h.rs.map hB) (by rw [e2]; exact h.ru.map hB)
    h.fb h.fl h.fs h.fw h.ne (fun x hx => .inl hx)
theorem LD.keep (h : LD w F b bl bs vw RL RS RW d) (hb : Below w.heap.size w w') : LD w' F b bl bs vw RL RS RW d := h.same fun x hx => hb.block x (h.lt x hx)
theorem LD.lenW (h : LD w F b bl bs vw RL RS RW d) : lenR RW = sumB d.under := h.ru.sum
/-- Behind a sync. -/
theorem LD.synced (h : LD w F b bl bs vw RL RS RW d) (hW : WroteTo w w' F b bl bs d.safe d.under #[.int .i64 d.room, .map (some bl), .int .i64 (sumB d.all), .map (some bs), .slice none 0 0, .bool (decide (0 < d.wait)), .int .i64 d.fails] (sumB d.under)) :
    ∃ R G, LD w' G b bl bs (.slice none 0 0) RL R [] { d with safe := d.all, under := [] } ∧ Step F G w w' := by
  obtain ⟨n1, n2, n3, n4, n5⟩ := h.nb
  obtain ⟨R, G, row, hM, hR, hw, hG, hN⟩ := hW
  rw [crash_full _ _ _ (Nat.le_refl _)] at hR
  have ea : ({ d with safe := d.all, under := [] } : St).all = d.all := rfl
  refine ⟨R, G, ?_, hw.step (fun x hx => ?_) (fun x hx => (hN x hx).imp_right (·.1))⟩
  · refine h.make hw (fun x hx _ c t f ht => ?_) row (h.ml.same (hw.block bl h.ml.lt (fun e => e.elim n1 h.ne))) hM (World.ownsRow_nil _ _ _ _) (h.rl.map fun hb => hb.wr hw (fun x c f hx => h.off x c f (by rcases hx with hx | hx; exact .inl hx; exact .inr (.inr (.inl hx)))) hG) hR .nil
      (hG _ h.fb) (hG _ h.fl) (hG _ h.fs) (fun g hg => by cases hg) h.ne (fun x hx => (hN x hx).imp_right fun ⟨h1, h2, cur, f, h3⟩ => ⟨h1, h2, fun c t f' ht => by rw [h3] at ht; cases ht; exact notcalm (.inr (.inr rfl))⟩)
    rcases hx with rfl | rfl
    · exact row_ty row ht
    · exact (hM.nocells ht).elim
  · rcases hx with rfl | rfl
    · exact h.fb
    · exact h.fs
end
theorem DiskAt.step {w w' : World} {F : Foot} {b : Nat} (hw : Wr (fun x => x = b) w w') (hb : F b) : Step F F w w' := hw.step (fun x hx => by cases hx; exact hb) (fun x hx => .inl hx)
set_option maxHeartbeats 4000000 in
theorem b8_sync (w : World) (F : Foot) (p : Value) (d : St) (n m : Nat) (hA : DiskAt w F p d) (ok : StOk d n m) (hn : n ≤ 30000) (hm : m ≤ 50000000) :
    Calls Try.prog 18 #[p] w fun e w' => ∃ F', e = .returned (.int .i64 (syncSt d).2) ∧ DiskAt w' F' p (syncSt d).1 ∧ Step F F' w w' := by
  obtain ⟨b, bl, bs, vw, RL, RS, RW, rfl, h⟩ := hA
  have hf := ok.fails
  have ok2 := ok.asked
  have hlen := ok.len
  have hsum := ok.sum
  have e1 := b8_failing w b _ _ _ _ _ d.fails d.wait ⟨hf.1, by omega⟩ h.row
  have hLD := fun (w1 : World) (r : RowAt w1 b _ _) (hw : Wr (fun x => x = b) w w1) => h.turn (d' := d.asked) hw r rfl rfl
  have hfb := h.fb
  have hG : ∀ {w1 : World}, Wr (fun x => x = b) w w1 → Step F F w w1 := fun hw => DiskAt.step hw hfb
  unfold syncSt
  unfold St.falls
  cases hfa : (askF d.fails d.wait).2
  · rw [hfa] at e1
    rw [if_neg (by simp)]
    have E1 := Lib.hid e1
    have LDH := Lib.hid hLD
    have OK2 := Lib.hid ok2
    have H := Lib.hid h
    have HG := Lib.hid (fun (w1 : World) (k : Wr (fun x => x = b) w w1) => hG k)
    clear e1 hLD ok2 h hfa ok hG
    go_enter Try.func18, Try.ntmps18
    go_wp2_with fail
    (refine (E1.out).mono ?_; rintro e w1 ⟨rfl, r1, k1⟩)
    have h1 := LDH.out w1 r1 k1
    have hL := b8_left w1 b _ _ _ _ _ _ _ RW h1.row h1.way (h1.ru.ok OK2.out.ru) (by have := h1.ru.len; have e : d.asked.under = d.under := rfl; rw [e] at this; omega) (by have := h1.lenW; have e : d.asked.under = d.under := rfl; rw [e] at this; omega)
    have hu := h1.lenW
    rw [hu] at hL
    have HL := Lib.hid hL
    have H1 := Lib.hid h1
    have K1 := Lib.hid k1
    clear r1 k1 hL h1 hu
    go_wp2_with fail
    (refine (HL.out).mono ?_; rintro e w2 ⟨rfl, k2⟩)
    have h2 := H1.out.keep k2
    have hW := b8_write w2 F b bl bs vw RL RS RW d.asked n m h2 OK2.out hn hm (sumB d.asked.under) (by have e : d.asked.under = d.under := rfl; rw [e]; omega)
    have HW := Lib.hid hW
    have H2 := Lib.hid h2
    have K2 := Lib.hid k2
    clear k2 h2 hW
    go_wp2_with fail
    (refine (HW.out).mono ?_; rintro e w3 ⟨⟨v3, rfl⟩, hw3⟩)
    obtain ⟨R, G, h3, s3⟩ := H2.out.synced hw3
    have S3 := Lib.hid s3
    have H3 := Lib.hid h3
    clear s3 h3 hw3
    go_wp2
    go_ret
    exact ⟨G, rfl, ⟨b, bl, bs, _, RL, R, [], rfl, H3.out⟩, ((HG.out _ K1.out).trans (Step.of K2.out)).trans S3.out⟩
  · rw [hfa] at e1
    rw [if_pos rfl]
    have E1 := Lib.hid e1
    have LDH := Lib.hid hLD
    have HG := Lib.hid (fun (w1 : World) (k : Wr (fun x => x = b) w w1) => hG k)
    clear e1 hLD ok2 h hfa ok hG
    go_enter Try.func18, Try.ntmps18
    go_wp2_with fail
    (refine (E1.out).mono ?_; rintro e w1 ⟨rfl, r1, k1⟩)
    have h1 := Lib.hid (LDH.out w1 r1 k1)
    have s1 := Lib.hid (HG.out w1 k1)
    clear r1 k1
    go_wp2
    go_ret
    exact ⟨F, rfl, ⟨b, bl, bs, vw, RL, RS, RW, rfl, h1.out⟩, s1.out⟩
end Go.Proofs.Ytkephcmjigfepaa
/- The landed disk: Get, Keys. -/
set_option linter.unusedVariables false
set_option linter.unusedSimpArgs false
namespace Go.Proofs.Ytkephcmjigfepaa
open Go.ChangeShapes Go.WideShapes Go.ChangeAt Go.RowKit
set_option maxHeartbeats 4000000 in
theorem b8_get (w : World) (F : Foot) (p : Value) (d : St) (k : Int) (n m : Nat) (hA : DiskAt w F p d) (ok : StOk d n m) (hn : n ≤ 30000) (hm : m ≤ 50000000) (hk : i64 k) :
    Calls Try.prog 21 #[p, .int .i64 k] w fun e w' => ∃ vb, e = .returned (.tuple #[vb, .bool (getSt d k).2]) ∧ w'.ownsRow w.heap.size 5 1 vb (getSt d k).1.length (bytVs (getSt d k).1) ∧ Below w.heap.size w w' := by
  obtain ⟨b, bl, bs, vw, RL, RS, RW, rfl, h⟩ := hA
  have look := h.ml.look2 hk
  have r := h.row
  have zb := r.lt
  have e1 : w.cell? ⟨b, 1, none⟩ = some (.map (some bl)) := by rw [r.cell]; rfl
  have hsum : sumB d.all ≤ 50000000 := by
    have h1 := nowF_sum d.under d.safe
    have h2 := ok.sum
    unfold St.all
    omega
  unfold getSt
  rcases h.rl.get (k := k) with ⟨g1, g2⟩ | ⟨v, B, g1, g2, hB⟩
  · rw [g1] at look
    rw [g2]
    have look : (Instr.lookup 54 (.map (some bl)) (.int .i64 k) true).run Try.prog w = .ok (.tuple #[.slice none 0 0, .bool false]) w := look
    clear g1 g2 h r hsum ok
    go_enter Try.func21, Try.ntmps21
    go_wp2_with fail
    (refine (Try.bytes_Clone_nil _ _ w).mono ?_; rintro e w1 ⟨rfl, rfl⟩)
    go_wp2
    go_ret2
    exact ⟨_, rfl, World.ownsRow_nil _ _ _ _, Below.refl _ _⟩
  · rw [g1] at look
    rw [g2]
    have look : (Instr.lookup 54 (.map (some bl)) (.int .i64 k) true).run Try.prog w = .ok (.tuple #[v, .bool true]) w := look
    have hBl : B.length ≤ 1000000000 := by
      have hm2 : ∀ (l : Blobs), getF l k = some B → B.length ≤ sumB l := fun l hl => by
        have hq := getF_in hl
        clear hl
        induction l with
        | nil => cases hq
        | cons x l ih =>
          rw [sumB]
          rcases List.mem_cons.1 hq with rfl | hq
          · simp only []; omega
          · have := ih hq; omega
      have := hm2 _ g2
      omega
    obtain ⟨q, c, rfl⟩ := hB.1.shape
    have hc := b8_clone _ B w hB.1 hBl
    have HC := Lib.hid hc
    clear g1 g2 h r hsum ok hc hB hBl
    show Calls _ _ _ _ fun e w' => ∃ vb, e = .returned (.tuple #[vb, .bool true]) ∧ w'.ownsRow w.heap.size 5 1 vb B.length (bytVs B) ∧ Below w.heap.size w w'
    go_enter Try.func21, Try.ntmps21
    go_wp2_with fail
    (refine (HC.out).mono ?_; rintro e w1 ⟨v1, rfl, ho, hb⟩)
    have HO := Lib.hid ho
    have HB := Lib.hid hb
    clear ho hb
    go_wp2
    go_ret2
    exact ⟨_, rfl, HO.out, HB.out⟩
theorem keys_sorted {l : List Raw} (hs : Srt l) {ss : List Int} (hp : ss.Perm (l.map (·.1))) : ss.mergeSort (fun x y => decide (x ≤ y)) = l.map (·.1) := by
  refine List.Perm.eq_of_pairwise (le := fun a b => decide (a ≤ b) = true) (fun a b _ _ h1 h2 => by simp only [decide_eq_true_eq] at h1 h2; omega) (List.pairwise_mergeSort (fun a b c h1 h2 => by simp only [decide_eq_true_eq] at *; omega) (fun a b => by simp only [Bool.or_eq_true, decide_eq_true_eq]; omega) ss) ?_ ((List.mergeSort_perm ss _).trans hp)
  refine List.pairwise_map.2 (hs.imp fun {a b} h => ?_)
  simp only [decide_eq_true_eq]
  omega
theorem rel_keys {R : Value → List Int → Prop} {rs : List Raw} {bs : Blobs} (h : RelG R rs bs) : rs.map (·.1) = bs.map (·.1) := by
  induction h with
  | nil => rfl
  | cons hx _ ih => simp only [List.map_cons, hx.1, ih]
open Go.Maps Go.Sort Go.Shelf in
theorem b8_sorts (m : Nat) : AnyZI.SortsIn Try.prog Try.sortedI38_ren Fence.wide m :=
  ⟨fun blk off cap ss W hH hblk hsz => callsIn_wide.2 (Try.slices_Sort_int blk off cap ss W hH hblk hsz), fun p cap W => callsIn_wide.2 (Try.slices_Sort_int_none p cap W)⟩
open Go.Maps Go.Sort Go.Shelf in
set_option maxHeartbeats 4000000 in
theorem b8_keys (w : World) (F : Foot) (p : Value) (d : St) (n m : Nat) (hA : DiskAt w F p d) (ok : StOk d n m) (hn : n ≤ 30000) (hm : m ≤ 50000000) :
    Calls Try.prog 30 #[p] w fun e w' => ∃ v, e = .returned v ∧ IntsAt w' v (d.all.map (·.1)) ∧ Below w.heap.size w w' := by
  obtain ⟨b, bl, bs, vw, RL, RS, RW, rfl, h⟩ := hA
  have r := h.row
  have zb := r.lt
  have e1 : w.cell? ⟨b, 1, none⟩ = some (.map (some bl)) := by rw [r.cell]; rfl
  have srt : Srt RL := rel_srt h.rl ok.srt.now
  have hk := rel_keys h.rl
  have hown : w.ownsMap Try.prog 3 slR bl RL.length (mapE RL) := h.ml
  have hlen : RL.length ≤ 30000 := by
    rw [h.rl.len]
    have h1 := all_len d
    have h2 := ok.len
    omega
  have hmax : Maps.size (mapE RL) ≤ maxLen := by rw [mapE_size]; simp only [maxLen]; omega
  have hbytes : Maps.size (mapE RL) * 8 ≤ 140737488355328 := by rw [mapE_size]; omega
  have hbl := h.ml.lt
  have KS := Lib.hid (fun ss => keys_sorted srt (ss := ss))
  have HK := Lib.hid hk
  clear hk srt hlen h r ok
  refine (callsIn_wide (n := 6)).1 ?_
  have hseq : SeqGives Fence.wide 2 Try.prog 42 #[.pointer (some ⟨w.heap.size, 0, none⟩)] encZ (fun ss => ss.Perm (intKeys (mapE RL))) (Maps.size (mapE RL)) (w.alloc (.cells #[.map (some bl)] 54)) :=
    AnyZI.keys_gives (ρ := Try.keysI39_ren) { Try.keysI39 with } Fence.wide _ trivial rfl (by omega) w.heap.size bl RL.length (mapE RL) _ (by simp) (by simp) (by
      obtain ⟨es, clock, hb, Ft, hs, hD⟩ := hown
      exact ⟨es, clock, (Below.heap_alloc _ _ bl hbl).trans hb, Ft, hs, hD⟩)
  have cK : ∀ mb W, CallsIn Fence.wide 5 Try.prog 39 #[.map mb] W fun e w' => e = .returned (.func (.func 42) #[] #[.pointer (some ⟨W.heap.size, 0, none⟩)]) ∧ w' = W.alloc (.cells #[.map mb] 54) := fun mb W => AnyZI.keys_in Try.keysI39 Fence.wide 5 trivial rfl mb W
  have cS := AnyZI.sorted_in Try.sortedI38 Fence.wide 5 trivial trivial trivial trivial rfl (by omega) (b8_sorts _) (enters_of Try.func41 (by kernel_rfl) rfl) 42 #[.pointer (some ⟨w.heap.size, 0, none⟩)] trivial (enters_of Try.func42 (by kernel_rfl) rfl) _ _ hmax hbytes _ hseq
  change CallsIn _ _ Try.prog 38 _ _ _ at cS
  have hfK : Fence.wide.fn 39 := trivial
  have hfS : Fence.wide.fn 38 := trivial
  clear hown hmax hbytes hseq
  refine callsIn_of_wp Try.func30 rfl trivial ?_ rfl
  simp only [Try.ntmps30, List.size_toArray, List.length_cons, List.length_nil, Nat.reduceAdd, Nat.reduceSub, Array.replicate_succ, Array.replicate_zero, List.push_toArray, List.append_toArray, List.nil_append, List.cons_append]
  gi_wp2_with (first
    | (gi_at_call 39; refine (cK _ _).mono ?_; rintro e w' ⟨rfl, rfl⟩)
    | (gi_at_call 38; refine cS.mono ?_; rintro e w' ⟨v, ss, rfl, hS, hrow, hnil, hb⟩))
  go_ret
  rw [mapE_keys] at hS
  have e := KS.out ss hS
  rw [e, HK.out] at hrow
  have hl : ss.length = (d.all.map (·.1)).length := by rw [← HK.out]; exact hS.length_eq
  rw [hl] at hrow
  exact ⟨v, rfl, ints_of_owned hrow, ((Below.refl _ w).alloc (Nat.le_refl _) _).trans (hb.mono (by simp))⟩
end Go.Proofs.Ytkephcmjigfepaa
/- The landed disk: Put. -/
set_option linter.unusedVariables false
set_option linter.unusedSimpArgs false
namespace Go.Proofs.Ytkephcmjigfepaa
open Go.ChangeShapes Go.WideShapes Go.ChangeAt Go.RowKit
/-- One blob more at the end of a row that is owned, and where the row lies then. -/
theorem app_raw_fresh {P : Program} {ops : Array Oper} {rest : List Oper} {o : Oper} {a : Act} {Q : Exit → Act → World → Prop} (w : World) (hgd : o.guard = none) (s x : Operand) (t : TypeId) (ho : o.op = .call { callee := .builtin .append, args := #[s, x], argTypes := #[t, t] }) (base : Nat) (e : TypeId) (i : TypeInfo) (z : Value)
    (ht : P.underlying t = some (.slice e)) (hi : P.info? e = some i) (hz : i.zero = some z) (hsize : i.size = 2) (hby : i.bytes = 32) (hzs : z.cells.size = 2)
    (v : Value) (n : Nat) (xs : List Value) (hs : a.eval s = v) (hown : w.ownsRow base e 2 v n xs) (g : Nat) (c d : Value) (hx : a.eval x = .slice (some ⟨g, 0, none⟩) 1 1) (hc : w.cell? ⟨g, 0, none⟩ = some c) (hd : w.cell? ⟨g, 1, none⟩ = some d)
    (h1 : c.oneCell' = true) (h2 : d.oneCell' = true) (hN : n ≤ 1000000) (hbase : base ≤ w.heap.size)
    (h : ∀ v' w', w'.ownsRow base e 2 v' (n + 1) (xs ++ [c, d]) → w.grownBy w' v.ownBlock → (v'.ownBlock = v.ownBlock ∨ v'.ownBlock = some w.heap.size) → wpList P ops Q rest (a.put o.dst v') w') : wpList P ops Q (o :: rest) a w :=
  wpList_plain hgd fun K hK => by
    have hnews : ∀ j u, [c, d][j]? = some u → w.cell? ((⟨g, 0, none⟩ : Addr).add j) = some u := fun j u hu => by
      match j, hu with
      | 0, hu => simp at hu; subst hu; simpa [Addr.add] using hc
      | 1, hu => simp at hu; subst hu; simpa [Addr.add] using hd
      | j + 2, hu => simp at hu
    have h12 : ∀ u ∈ [c, d], u.oneCell' = true := fun u hu => by
      simp at hu
      rcases hu with rfl | rfl
      · exact h1
      · exact h2
    obtain ⟨v', w', hr, k2, k3, _⟩ := run_append_own (P := P) w base t o.type e i z 2 32 ht hi hz hsize hby hzs (by omega) v n xs hown ⟨g, 0, none⟩ 1 1 [c, d] rfl hnews h12 (by simp only [maxLen]; omega) (by omega) hbase
    obtain ⟨v2, w2, hr2, k5⟩ := run_append_fresh (P := P) w base t o.type e i z ht hi hz v n xs (by rw [hsize]; exact hown) ⟨g, 0, none⟩ 1 1 [c, d] (by rw [hsize]; rfl) hnews h12 (by simp only [maxLen]; omega) (by rw [hby]; omega) (by omega)
    rw [hr] at hr2
    cases hr2
    unfold Oper.wp execOp
    simp only [ho, resolve, invoke, builtin, Sem.run_bind, Sem.run_pure, Result.andThen_ok, List.map_toArray, List.map_cons, List.map_nil, hs, hx, hr]
    exact hK _ _ (h v' w' k2 k3 k5)
theorem sumB_ins {k : Int} {B : List Int} : ∀ {l : Blobs}, Srt l → sumB (insF l (k, B)) + ((getF l k).getD []).length = sumB l + B.length
  | [], _ => by simp [insF, getF, sumB]
  | x :: l, h => by
    obtain ⟨h1, h2⟩ := List.pairwise_cons.1 h
    rw [insF, getF]
    by_cases c : k ≤ x.1
    · rw [if_pos c]
      by_cases c2 : x.1 = k
      · rw [if_pos c2, if_pos c2]; simp only [sumB, Option.getD_some]; omega
      · have hn : getF l k = none := getF_none fun i hi => by
          have := h1 l[i] (List.getElem_mem hi)
          omega
        rw [if_neg c2, if_neg c2, hn]; simp only [sumB, Option.getD_none, List.length_nil]; omega
    · have c2 : ¬ x.1 = k := by omega
      rw [if_neg c, if_neg c2]
      have := sumB_ins (k := k) (B := B) h2
      simp only [sumB]; omega
theorem getF_le {k : Int} : ∀ {l : Blobs}, ((getF l k).getD []).length ≤ sumB l
  | [] => by simp [getF, sumB]
  | x :: l => by
    rw [getF]
    split
    · simp only [sumB, Option.getD_some]; omega
    · have := getF_le (k := k) (l := l)
      simp only [sumB]; omega
theorem put_info : ∃ i, Try.prog.info? 73 = some i ∧ i.zero = some (.agg #[.int .i64 0, .slice none 0 0]) ∧ i.size = 2 ∧ i.bytes = 32 := by
  obtain ⟨i, hi⟩ : ∃ i, Try.prog.info? 73 = some i := Option.isSome_iff_exists.1 (by kernel_rfl)
  have h : (Try.prog.info? 73).map (fun i => (i.zero, i.size, i.bytes)) = some (some (.agg #[.int .i64 0, .slice none 0 0]), 2, 32) := by kernel_rfl
  rw [hi] at h
  simp at h
  exact ⟨i, hi, h.1, h.2.1, h.2.2⟩
theorem exec_look {o : Oper} {a : Act} {u : World} {b : Nat} {S : List Raw} {k : Int} {v : Value} (m x : Operand) (ho : o.op = .lookup 54 m x false) (hm : a.eval m = .map (some b)) (hx : a.eval x = .int .i64 k) (h : MapAt u b S) (hk : i64 k) (hv : (getF S k).getD (.slice none 0 0) = v) :
    (execOp a.eval o).run Try.prog u = .ok (.value v) u := by
  have := h.look hk
  rw [hv] at this
  simp [execOp, ho, hm, hx, this, Result.andThen]
theorem wp_estore {ops : Array Oper} {rest : List Oper} {o : Oper} {a : Act} {Q : Exit → Act → World → Prop} (w w2 : World) (hg : o.guard = none) (m s x : Operand) (hop : o.op = Op.entryStore 54 m s x) (b st : Nat) (y : Value) (hm : a.eval m = .map (some b)) (hs : a.eval s = goInt st) (hv : a.eval x = y)
    (hrun : (Instr.entryStore 54 (.map (some b)) (goInt st) y).run Try.prog w = .ok () w2) (hK : wpList Try.prog ops Q rest (a.put o.dst undef) w2) : wpList Try.prog ops Q (o :: rest) a w := by
  refine wpList_plain hg fun K' hK' => ?_
  unfold Oper.wp
  simp [execOp, hop, hm, hs, hv, hrun, Result.andThen]
  exact hK' _ _ hK
/-- A row of bytes stays when the disk's own row is written. -/
theorem byts_turn {w w' : World} {b : Nat} {v : Value} {B : List Int} {i0 i2 i6 : Int} {m1 m3 : Option Nat} {p : Option Addr} {n c : Nat} {s : Bool} {t : TypeId} (h : BytsAt w v B) (r : RowAt w b #[.int .i64 i0, .map m1, .int .i64 i2, .map m3, .slice p n c, .bool s, .int .i64 i6] t) (hw : Wr (fun x => x = b) w w') : BytsAt w' v B := by
  rcases h with h | ⟨g, off, cap, e, hc, hg, hx⟩
  · exact .inl h
  · rcases Nat.eq_zero_or_pos B.length with h0 | h0
    · obtain rfl := List.length_eq_zero_iff.1 h0
      exact .inl ⟨⟨_, _, e⟩, rfl⟩
    · have hne : g ≠ b := by
        rintro rfl
        have h1 := hx 0 h0
        rw [r.cell] at h1
        revert h1
        generalize B[0] = x0
        match off + 0 with
        | 0 => intro h1; simp at h1
        | 1 => intro h1; simp at h1
        | 2 => intro h1; simp at h1
        | 3 => intro h1; simp at h1
        | 4 => intro h1; simp at h1
        | 5 => intro h1; simp at h1
        | 6 => intro h1; simp at h1
        | q + 7 => intro h1; simp at h1
      have e2 := hw.block g hg hne
      exact .inr ⟨g, off, cap, e, hc, Nat.lt_of_lt_of_le hg hw.size, fun j hj => (World.cell?_of_block (a := ⟨g, off + j, none⟩) e2).trans (hx j hj)⟩
/-- Behind a put. -/
theorem LD.putted {w w' : World} {F : Foot} {b bl bs : Nat} {vw v2 v3 : Value} {RL RS RW : List Raw} {d : St} {k : Int} {B : List Int} (h : LD w F b bl bs vw RL RS RW d) (srt : Srt d.all)
    (hw : Wr (fun x => x = b ∨ x = bl ∨ vw.ownBlock = some x) w w')
    (row' : RowAt w' b #[.int .i64 d.room, .map (some bl), .int .i64 (sumB (layF d.all (k, B))), .map (some bs), v3, .bool (decide (0 < d.wait)), .int .i64 d.fails] 57)
    (ml' : MapAt w' bl (insF RL (k, v2))) (way' : w'.ownsRow 0 73 2 v3 (RW.length + 1) (rawVs RW ++ [.int .i64 k, v2])) (hv2 : w'.ownsRow w.heap.size 5 1 v2 B.length (bytVs B))
    (h3 : v3.ownBlock = vw.ownBlock ∨ ∀ g, v3.ownBlock = some g → w.heap.size ≤ g) :
    ∃ F', LD w' F' b bl bs v3 (insF RL (k, v2)) RS (RW ++ [(k, v2)]) { d with under := d.under ++ [(k, B)] } ∧ Step F F' w w' := by
  obtain ⟨n1, n2, n3, n4, n5⟩ := h.nb
  have ea : ({ d with under := d.under ++ [(k, B)] } : St).all = layF d.all (k, B) := nowF_snoc _ _ _
  have sR : Srt RL := rel_srt h.rl srt
  have w3T : ∀ g, v3.ownBlock = some g → ∃ cur, w'.heap[g]? = some (Obj.cells cur 73 (0, 0)) := fun g hg => by
    rcases way'.2 with ⟨rfl, _⟩ | ⟨g', cap, cur, rfl, _, ht, _⟩
    · cases hg
    · cases hg; exact ⟨cur, ht⟩
  have w2T : ∀ g, v2.ownBlock = some g → ∃ cur, w'.heap[g]? = some (Obj.cells cur 5 (0, 0)) := fun g hg => by
    rcases hv2.2 with ⟨rfl, _⟩ | ⟨g', cap, cur, rfl, _, ht, _⟩
    · cases hg
    · cases hg; exact ⟨cur, ht⟩
  have hB : ∀ {v : Value} {B' : List Int}, BlobIn F w v B' → BlobIn (fun x => (F x ∧ vw.ownBlock ≠ some x) ∨ v3.ownBlock = some x ∨ v2.ownBlock = some x) w' v B' := fun hb =>
    hb.turn (fun g cur f hg ht => hw.block g (h.lt g hg) (fun hx => h.off g cur f (by rcases hx with hx | hx | hx; exact .inl hx; exact .inr (.inl hx); exact .inr (.inr (.inr hx))) ht))
      (fun g cur f hg ht => .inl ⟨hg, fun e => h.off g cur f (.inr (.inr (.inr e))) ht⟩)
  refine ⟨_, h.make hw (fun x hx hF c t f ht => ?_) (by rw [ea]; exact row') ml' (h.ms.same (hw.block bs h.ms.lt (fun e => by rcases e with e | e | e; exact n2 e; exact h.ne e.symm; exact n5 e))) (by rw [List.length_append, rawVs_snoc]; exact way') ?_ (h.rs.map hB) (rel_append (h.ru.map hB) (rel_one ?_))
    (.inl ⟨h.fb, n3⟩) (.inl ⟨h.fl, n4⟩) (.inl ⟨h.fs, n5⟩) (fun g hg => .inr (.inl hg)) h.ne (fun x hx => ?_), hw.step (fun x hx => ?_) (fun x hx => ?_)⟩
  · rcases hx with rfl | rfl | hx
    · exact row_ty row' ht
    · exact (ml'.nocells ht).elim
    · rcases hF with hF | hF | hF
      · exact absurd hx hF.2
      · obtain ⟨cur, h2⟩ := w3T x hF
        rw [h2] at ht; cases ht
        exact notcalm (.inr (.inl rfl))
      · have h1 := h.lt x (h.fw x hx)
        have h2 := (hv2.lt x hF).1
        omega
  · rw [ea, ← layF_ins _ sR]
    exact (h.rl.map hB).lay (BlobIn.owned hv2 fun g hg => .inr (.inr hg))
  · exact BlobIn.owned hv2 fun g hg => .inr (.inr hg)
  · rcases hx with hx | hx | hx
    · exact .inl hx.1
    · rcases h3 with h3 | h3
      · exact .inl (h.fw x (h3 ▸ hx))
      · refine .inr ⟨h3 x hx, (way'.lt x hx).2, fun c t f ht => ?_⟩
        obtain ⟨cur, h2⟩ := w3T x hx
        rw [h2] at ht; cases ht
        exact notcalm (.inr (.inl rfl))
    · refine .inr ⟨(hv2.lt x hx).1, (hv2.lt x hx).2, fun c t f ht => ?_⟩
      obtain ⟨cur, h2⟩ := w2T x hx
      rw [h2] at ht; cases ht
      exact notcalm (.inr (.inr rfl))
  · rcases hx with rfl | rfl | hx
    · exact h.fb
    · exact h.fl
    · exact h.fw x hx
  · rcases hx with hx | hx | hx
    · exact .inl hx.1
    · rcases h3 with h3 | h3
      · exact .inl (h.fw x (h3 ▸ hx))
      · exact .inr (h3 x hx)
    · exact .inr (hv2.lt x hx).1
end Go.Proofs.Ytkephcmjigfepaa
/- The landed disk: Put. -/
set_option linter.unusedVariables false
set_option linter.unusedSimpArgs false
namespace Go.Proofs.Ytkephcmjigfepaa
open Go.ChangeShapes Go.WideShapes Go.ChangeAt Go.RowKit
set_option maxRecDepth 10000 in
set_option maxHeartbeats 8000000 in
theorem b8_put (w : World) (F : Foot) (p : Value) (d : St) (k : Int) (vb : Value) (B : List Int) (n m : Nat) (hA : DiskAt w F p d) (ok : StOk d n m) (hn : n ≤ 30000) (hm : m ≤ 50000000) (hk : i64 k) (hv : BytsAt w vb B) (okB : bytOk B) (hBl : B.length ≤ 1000000) :
    Calls Try.prog 17 #[p, .int .i64 k, vb] w fun e w' => ∃ F', e = .returned (.int .i64 (putSt d k B).2) ∧ DiskAt w' F' p (putSt d k B).1 ∧ Step F F' w w' := by
  obtain ⟨b, bl, bs, vw, RL, RS, RW, rfl, h⟩ := hA
  obtain ⟨i0, hi, hz, hsz, hby⟩ := put_info
  have hf := ok.fails
  have ok2 := ok.asked
  have srt : Srt d.all := ok.srt.now
  have sR : Srt RL := rel_srt h.rl srt
  have hlen := ok.len
  have hsum := ok.sum
  have hall : sumB d.all ≤ 50000000 := by
    have h1 := nowF_sum d.under d.safe
    unfold St.all; omega
  have hal : RL.length ≤ 30000 := by
    rw [h.rl.len]
    have h1 := all_len d
    omega
  have hwl : RW.length ≤ 30000 := by rw [h.ru.len]; omega
  have e1 := b8_failing w b _ _ _ _ _ d.fails d.wait ⟨hf.1, by omega⟩ h.row
  obtain ⟨pw, cw, hvw⟩ := own_form h.way
  have hfb := h.fb
  have hv1 : ∀ {w1 : World}, Wr (fun x => x = b) w w1 → BytsAt w1 vb B := fun hw => by
    have r := h.row
    rw [hvw] at r
    exact byts_turn hv r hw
  have hLD := fun (w1 : World) (r : RowAt w1 b _ _) (hw : Wr (fun x => x = b) w w1) => h.turn (d' := d.asked) hw r rfl rfl
  have hG : ∀ (w1 : World), Wr (fun x => x = b) w w1 → Step F F w w1 := fun w1 hw => DiskAt.step hw hfb
  have hsi := sumB_ins (k := k) (B := B) srt
  rw [← layF_ins _ srt] at hsi
  have hle := getF_le (k := k) (l := d.all)
  have hgl : ∃ q c, (getF RL k).getD (.slice none 0 0) = .slice q ((getF d.all k).getD []).length c := by
    rcases h.rl.get (k := k) with ⟨g1, g2⟩ | ⟨v, B', g1, g2, hB⟩
    · rw [g1, g2]; exact ⟨none, 0, rfl⟩
    · rw [g1, g2]
      obtain ⟨q, c, rfl⟩ := hB.1.shape
      exact ⟨q, c, rfl⟩
  obtain ⟨q, c, hgl⟩ := hgl
  obtain ⟨pb, cb, hvb⟩ := hv.shape
  unfold putSt
  unfold St.falls
  cases hfa : (askF d.fails d.wait).2
  · rw [hfa] at e1
    rw [if_neg (by simp)]
    obtain ⟨Z, hZ⟩ : ∃ Z, sumB (layF d.all (k, B)) = Z := ⟨_, rfl⟩
    obtain ⟨O, hO⟩ : ∃ Z, ((getF d.all k).getD []).length = Z := ⟨_, rfl⟩
    obtain ⟨A, hA⟩ : ∃ Z, sumB d.all = Z := ⟨_, rfl⟩
    obtain ⟨L, hL⟩ : ∃ Z, B.length = Z := ⟨_, rfl⟩
    rw [hZ, hO, hA, hL] at hsi
    rw [hO, hA] at hle
    rw [hO] at hgl
    rw [hL] at hvb hBl
    rw [hA] at hall e1 hLD
    rw [hZ]
    generalize hPR : (if d.room < (Z : Int) then (d.asked, (8 : Int)) else ({ d.asked with under := d.under ++ [(k, B)] }, 0)) = PR
    have HPR := Lib.hid hPR
    clear hPR
    have z1 : IntKind.i64.wrap ((A : Int) - (O : Int)) = (A : Int) - O := IntWalk.i64_in _ (by omega)
    have z2 : (A : Int) - (O : Int) + (L : Int) = (Z : Int) := by omega
    have z3 : IntKind.i64.wrap (Z : Int) = Z := IntWalk.i64_in _ (by omega)
    have z4 : IntKind.i64.wrap ((A : Int) - (O : Int) + (L : Int)) = (Z : Int) := by rw [z2]; exact z3
    have E1 := Lib.hid e1
    have LDH := Lib.hid hLD
    have OK2 := Lib.hid ok2
    have H := Lib.hid h
    have HG := Lib.hid hG
    have HV1 := Lib.hid (fun (w1 : World) (hw : Wr (fun x => x = b) w w1) => hv1 hw)
    have SR := Lib.hid sR
    have SRT := Lib.hid srt
    have HGL := Lib.hid hgl
    have HZ := Lib.hid hZ
    have HL := Lib.hid hL
    have HA := Lib.hid hA
    have HVW := Lib.hid hvw
    have HK := Lib.hid hk
    have OKB := Lib.hid okB
    subst hvb
    clear e1 hLD ok2 h hfa ok hG hv1 sR srt hgl hZ hO hA hL hv hle hsi okB hvw
    obtain ⟨hk0, hk1⟩ := hk
    go_enter Try.func17, Try.ntmps17
    go_wp2_with fail
    (refine (E1.out).mono ?_; rintro e w1 ⟨rfl, r1, k1⟩)
    have h1 := LDH.out w1 r1 k1
    have hv1 := HV1.out w1 k1
    have HV1' := Lib.hid hv1
    have ML1 := Lib.hid h1.ml
    have H1 := Lib.hid h1
    have K1 := Lib.hid k1
    have R1 := Lib.hid r1
    have zb := r1.lt
    have c0 : w1.cell? ⟨b, 0, none⟩ = some (.int .i64 d.room) := by rw [r1.cell]; rfl
    have c1 : w1.cell? ⟨b, 1, none⟩ = some (.map (some bl)) := by rw [r1.cell]; rfl
    have c2 : w1.cell? ⟨b, 2, none⟩ = some (.int .i64 (A : Int)) := by rw [r1.cell]; rfl
    clear r1 k1 h1 hv1
    go_wp2_with fail
    refine region_below 15 (by kernel_rfl) (by kernel_rfl) ?_
    simp only [List.take_succ_cons, List.take_zero, List.drop_succ_cons, List.drop_zero]
    repeat (first | (refine' InText.skip (by rfl) ?_; simp only [Act.put, List.setIfInBounds_toArray, List.set_cons_zero, List.set_cons_succ]) | (refine' InText.val (by rfl) (fun wr hr => exec_look _ _ rfl rfl rfl (ML1.out.keep hr) HK.out HGL.out) ?_; simp only [Act.put, List.setIfInBounds_toArray, List.set_cons_zero, List.set_cons_succ]) | (refine' InText.val (by rfl) (fun wr hr => ?_) ?_; rotate_left 1; (focus (obtain ⟨hrc, hrf⟩ := bcell hr; (go_simp <;> with_reducible rfl); done)); simp only [Act.put, List.setIfInBounds_toArray, List.set_cons_zero, List.set_cons_succ]))
    refine fun wrs hrs => ?_
    obtain ⟨hrcs, hrfs⟩ := bcell hrs
    have hS := H1.out.keep hrs
    have sS := (HG.out _ K1.out).trans (Step.of hrs)
    have rS := R1.out.keep hrs
    have HS := Lib.hid hS
    have SS := Lib.hid sS
    have RS1 := Lib.hid rS
    have hvS := HV1'.out.keep hrs
    have KS := Lib.hid (K1.out.below hrs)
    clear hrs hrcs hrfs c0 c1 c2 zb hS sS z1 z2 z3 z4
    have zb := rS.lt
    have c0 : wrs.cell? ⟨b, 0, none⟩ = some (.int .i64 d.room) := by rw [rS.cell]; rfl
    clear rS
    by_cases hgt : d.room < (Z : Int)
    · have g1 : decide (d.room < (Z : Int)) = true := by simpa using hgt
      have g2 : decide ((Z : Int) > d.room) = true := g1
      have e := HPR.out
      rw [if_pos hgt] at e
      have EP := Lib.hid e
      clear hgt hvS e
      go_wp2
      go_ret
      rw [← EP.out]
      exact ⟨F, rfl, ⟨b, bl, bs, vw, RL, RS, RW, rfl, HS.out⟩, SS.out⟩
    · have g1 : decide (d.room < (Z : Int)) = false := by simpa using hgt
      have g2 : decide ((Z : Int) > d.room) = false := g1
      have e := HPR.out
      rw [if_neg hgt] at e
      have EP := Lib.hid e
      clear hgt e
      have hc := b8_clone _ B wrs hvS (by rw [HL.out]; omega)
      have HC := Lib.hid hc
      clear hc hvS
      go_wp2_with fail
      (refine (HC.out).mono ?_; rintro e w2 ⟨v2, rfl, ho, hb2⟩)
      have KW2 := Lib.hid (KS.out.below hb2)
      have RW2 := Lib.hid (RS1.out.keep hb2)
      have ML2 := Lib.hid (HS.out.ml.keep hb2)
      have HO2 := Lib.hid ho
      have HB2 := Lib.hid hb2
      obtain ⟨p2, c2, hv2⟩ := own_form ho
      have HV2 := Lib.hid hv2
      clear ho hb2 hv2 c0 zb g1 g2
      have zb := RW2.out.lt
      have c1 : w2.cell? ⟨b, 1, none⟩ = some (.map (some bl)) := by rw [RW2.out.cell]; rfl
      have hbl : bl ≠ b := HS.out.nb.1
      go_upto_region 8 with (first
        | (refine wp_entry _ rfl _ _ rfl bl RL rfl ML2.out SR.out (by omega) k rfl HK.out ?_
           intro w3 v0 st hg3 hs3 hES
           obtain ⟨w4, hr4, hM4, hg4, hs4⟩ := hES v2 ⟨_, _, _, HV2.out⟩
           have hr4' : (Instr.entryStore 54 (.map (some bl)) (.int .i64 (st : Int)) v2).run Try.prog w3 = .ok () w4 := hr4
           have rw3 := (hg3.block b RW2.out.lt (fun e => hbl (by cases e; rfl))).trans RW2.out
           have RW4 := Lib.hid (((hg4.block b (RowAt.lt rw3) (fun e => hbl (by cases e; rfl))).trans rw3))
           have KW4 := Lib.hid (And.intro hg3 hg4)
           have ML4 := Lib.hid hM4
           have zb := RowAt.lt RW4.out
           have c2 : w4.cell? ⟨b, 2, none⟩ = some (.int .i64 (A : Int)) := by rw [RowAt.cell RW4.out]; rfl
           have f2 := RowAt.frozen RW4.out 2
           clear hr4 hM4 hg4 hs4 hg3 hs3 hES rw3)
        | fail)
      obtain ⟨u5, hu5⟩ : ∃ u, w4.setCell ⟨b, 2, none⟩ (.int .i64 (Z : Int)) = u := ⟨_, rfl⟩
      rw [hu5]
      have hw5 : Wr (fun x => x = b ∨ x = bl) w2 u5 := by
        rw [← hu5]
        exact (((Wr.refl _ _).grown KW4.out.1 (fun q e => by cases e; exact .inl (.inr rfl))).grown KW4.out.2 (fun q e => by cases e; exact .inl (.inr rfl))).put (.inl (.inl rfl)) 2 _
      have rw5 : RowAt u5 b #[.int .i64 d.room, .map (some bl), .int .i64 (Z : Int), .map (some bs), vw, .bool (decide (0 < d.asked.wait)), .int .i64 d.asked.fails] 57 := by rw [← hu5]; exact RowAt.set RW4.out 2 (.int .i64 (Z : Int))
      have ml5 : MapAt u5 bl (insF RL (k, v2)) := by rw [← hu5]; exact ML4.out.same (Below.heap_setCell w4 ⟨b, 2, none⟩ _ bl hbl)
      have h5 := HS.out.nb
      have way5 := hw5.own ((HS.out.keep HB2.out).way) (fun g hg e => by rcases e with e | e; exact h5.2.2.1 (by rw [hg, e]); exact h5.2.2.2.1 (by rw [hg, e]))
      have v25 : u5.ownsRow wrs.heap.size 5 1 v2 B.length (bytVs B) := hw5.own HO2.out (fun g hg e => by
        have h6 := (HO2.out.lt g hg).1
        have h7 := RS1.out.lt
        have h8 := HS.out.ml.lt
        rcases e with e | e <;> omega)
      obtain ⟨n1, n2, n3, n4, n5⟩ := h5
      have hwF : ∀ g, vw.ownBlock = some g → g < wrs.heap.size := fun g hg => HS.out.lt g (HS.out.fw g hg)
      have s5 : wrs.heap.size ≤ u5.heap.size := Nat.le_trans HB2.out.size hw5.size
      have bs5 := RS1.out.lt
      have bls5 := HS.out.ml.lt
      have KW5 := Lib.hid ((Wr.of (X := fun x => x = b ∨ x = bl) HB2.out).trans hw5)
      have RW5 := Lib.hid rw5
      have ML5 := Lib.hid ml5
      have V25 := Lib.hid v25
      have WAY5 := Lib.hid way5
      have N1 := Lib.hid n1
      have N3 := Lib.hid n3
      have N4 := Lib.hid n4
      have HWF := Lib.hid hwF
      have HWF2 := Lib.hid (fun g (hg : vw.ownBlock = some g) => HS.out.lt g (HS.out.fw g hg))
      clear hu5 hw5 rw5 ml5 way5 v25 hwF n1 n2 n3 n4 n5 c1 zb hr4' c2 f2
      have e2 := HV2.out
      rw [HL.out] at e2
      subst e2
      have zb := RW5.out.lt
      have c4 : u5.cell? ⟨b, 4, none⟩ = some vw := by rw [RW5.out.cell]; rfl
      go_wp2_with (first
        | (at_builtin
           refine app_raw_fresh _ rfl _ _ 55 rfl 0 73 i0 _ Try.underlying55 hi hz hsz hby rfl _ _ _ rfl (WAY5.out.alloc _) u5.heap.size (.int .i64 k) (.slice p2 L c2) rfl (by go_simp) (by go_simp) rfl rfl (by omega) (by omega) ?_
           intro v6 w6 ho6 hg6 hf6
           obtain ⟨p6, c6, rfl⟩ := own_form ho6
           have rw6 := (hg6.block b ((RW5.out.alloc _).lt) (fun e => N3.out e.symm)).trans (RW5.out.alloc _)
           have RW6 := Lib.hid rw6
           have HO6 := Lib.hid ho6
           have HG6 := Lib.hid hg6
           have HF6 := Lib.hid hf6
           clear c4 zb ho6 hg6 hf6
           have zb := RowAt.lt rw6
           have c4 : w6.cell? ⟨b, 4, none⟩ = some vw := by rw [RowAt.cell rw6]; rfl
           have f4 := RowAt.frozen rw6 4
           clear rw6)
        | go_in)
      go_ret
      rw [← EP.out]
      have su : (u5.alloc (Obj.cells #[.int .i64 k, .slice p2 L c2] 73)).heap.size = u5.heap.size + 1 := by simp
      have hg6 := HG6.out
      have hf6 := HF6.out
      have n6 : (Value.slice p6 (RW.length + 1) c6).ownBlock ≠ some b := by
        rcases hf6 with e | e
        · rw [e]; exact N3.out
        · rw [e, su]; intro e; cases e; omega
      have k6 : Wr (fun x => x = b ∨ vw.ownBlock = some x) u5 (w6.setCell ⟨b, 4, none⟩ (.slice p6 (RW.length + 1) c6)) := (((Wr.refl _ _).alloc _).grown hg6 (fun g e => .inl (.inr e))).put (.inl (.inl rfl)) 4 _
      have kw : Wr (fun x => x = b ∨ x = bl ∨ vw.ownBlock = some x) wrs (w6.setCell ⟨b, 4, none⟩ (.slice p6 (RW.length + 1) c6)) := (KW5.out.mono (fun x hx => hx.imp_right .inl)).trans (k6.mono (fun x hx => hx.imp_right .inr))
      have hv2 := k6.own V25.out (fun g hg e => by
        have h6 := (V25.out.lt g hg).1
        rcases e with e | e
        · omega
        · have := HWF.out g e; omega)
      rw [HL.out] at hv2
      have hO : (w6.setCell ⟨b, 4, none⟩ (.slice p6 (RW.length + 1) c6)).ownsRow 0 73 2 (.slice p6 (RW.length + 1) c6) (RW.length + 1) (rawVs RW ++ [.int .i64 k, .slice p2 L c2]) :=
        (Wr.put (X := fun x => x = b) (Wr.refl _ _) (.inl rfl) 4 _).own HO6.out (fun g hg e => n6 (by rw [hg, e]))
      have hml := ML5.out.same (k6.block bl ML5.out.lt (fun e => by
        rcases e with e | e
        · exact N1.out e
        · exact N4.out e))
      have hrow : RowAt (w6.setCell ⟨b, 4, none⟩ (.slice p6 (RW.length + 1) c6)) b #[.int .i64 d.asked.room, .map (some bl), .int .i64 (sumB (layF d.asked.all (k, B)) : Nat), .map (some bs), .slice p6 (RW.length + 1) c6, .bool (decide (0 < d.asked.wait)), .int .i64 d.asked.fails] 57 := by
        rw [show d.asked.all = d.all from rfl, HZ.out]
        exact RowAt.set RW6.out 4 (.slice p6 (RW.length + 1) c6)
      obtain ⟨F', hfin, hst⟩ := HS.out.putted (B := B) (k := k) (v2 := .slice p2 L c2) (v3 := .slice p6 (RW.length + 1) c6) SRT.out kw hrow hml hO (by rw [HL.out]; exact hv2) (by
        rcases hf6 with e | e
        · exact .inl e
        · refine .inr fun g hg => ?_
          rw [e, su] at hg
          cases hg
          omega)
      exact ⟨F', rfl, ⟨b, bl, bs, _, _, RS, _, rfl, hfin⟩, SS.out.trans hst⟩
  · rw [hfa] at e1
    rw [if_pos rfl]
    have E1 := Lib.hid e1
    have LDH := Lib.hid hLD
    have HG := Lib.hid hG
    clear e1 hLD ok2 h hfa ok hG hv1 sR srt hgl hv hle hsi okB hvw hvb hk
    go_enter Try.func17, Try.ntmps17
    go_wp2_with fail
    (refine (E1.out).mono ?_; rintro e w1 ⟨rfl, r1, k1⟩)
    have h1 := Lib.hid (LDH.out w1 r1 k1)
    have s1 := Lib.hid (HG.out w1 k1)
    clear r1 k1
    go_wp2
    go_ret
    exact ⟨F, rfl, ⟨b, bl, bs, vw, RL, RS, RW, rfl, h1.out⟩, s1.out⟩
end Go.Proofs.Ytkephcmjigfepaa
/- The landed disk: Crash, the words. -/
set_option linter.unusedVariables false
set_option linter.unusedSimpArgs false
namespace Go.Proofs.Ytkephcmjigfepaa
open Go.ChangeShapes Go.WideShapes Go.ChangeAt Go.RowKit
theorem Wr.one {b : Nat} {w w' : World} (h : Wr (fun x => x = b) w w') : w.grownBy w' (some b) := ⟨h.os, h.tape, h.output, h.size, fun k hk hn => h.block k hk (fun e => hn (by rw [e]))⟩
theorem sub_len : ∀ (S L : List Raw), Srt S → Srt L → (∀ x ∈ L, x ∈ S) → L.length ≤ S.length
  | [], [], _, _, _ => Nat.le_refl _
  | [], x :: L, _, _, h => by have := h x (List.mem_cons_self ..); cases this
  | s :: S, [], _, _, _ => by simp
  | s :: S, x :: L, hs, hl, h => by
    obtain ⟨s1, s2⟩ := List.pairwise_cons.1 hs
    obtain ⟨l1, l2⟩ := List.pairwise_cons.1 hl
    rcases List.mem_cons.1 (h x (List.mem_cons_self ..)) with rfl | hx
    · have := sub_len S L s2 l2 fun y hy => by
        rcases List.mem_cons.1 (h y (List.mem_cons_of_mem _ hy)) with rfl | hy2
        · have := l1 y hy; omega
        · exact hy2
      simp only [List.length_cons]; omega
    · have := sub_len S (x :: L) s2 hl fun y hy => by
        rcases List.mem_cons.1 (h y hy) with rfl | hy2
        · have h1 := s1 x hx
          rcases List.mem_cons.1 hy with rfl | hy3
          · omega
          · have := l1 y hy3; omega
        · exact hy2
      simp only [List.length_cons] at this ⊢; omega
theorem at_get {R : List Raw} {x : Int} {v : Value} (h : ∀ z : DataW Value, (mapE R).atKey (.int .i64 x) z = .held v) : getF R x = some v := by
  have h1 := h (.held (.bool true))
  have h2 := h (.held (.bool false))
  rw [mapE_at] at h1 h2
  cases hg : getF R x with
  | none =>
    rw [hg] at h1 h2
    simp only [Option.getD_none, DataW.held.injEq] at h1 h2
    rw [← h1] at h2
    cases h2
  | some y =>
    rw [hg] at h1
    simp only [Option.getD_some, DataW.held.injEq] at h1
    rw [h1]
theorem agree_sub {L R : List Raw} {left : Lit → Bool} (hA : Go.Maps.Agree (mapE L) (mapE R) left) (hs : Srt L) : ∀ x ∈ L, x ∈ R := by
  rintro ⟨k, v⟩ hx
  have h1 := mem_getF hs hx
  have h2 : Go.Maps.has (mapE L) (.int .i64 k) = true := by rw [mapE_has, h1]; rfl
  have h3 := hA.1 (.int .i64 k)
  rw [h2] at h3
  have h4 : Go.Maps.has (mapE R) (.int .i64 k) = true := by
    cases h : Go.Maps.has (mapE R) (.int .i64 k)
    · rw [h] at h3; cases h3
    · rfl
  have h5 := hA.2 (.int .i64 k) (.held (.bool true)) h2
  rw [mapE_at, mapE_at, h1] at h5
  rw [mapE_has] at h4
  cases h6 : getF R k with
  | none => rw [h6] at h4; cases h4
  | some y =>
    rw [h6] at h5
    simp only [Option.getD_some, DataW.held.injEq] at h5
    exact getF_in (h6.trans (by rw [h5]))
theorem agree_none {L R : List Raw} {left : Lit → Bool} (hA : Go.Maps.Agree (mapE L) (mapE R) left) {x : Int} (h : left (.int .i64 x) = true) : getF L x = none := by
  have h3 := hA.1 (.int .i64 x)
  rw [h, mapE_has] at h3
  cases hg : getF L x with
  | none => rfl
  | some y =>
    rw [hg] at h3
    simp at h3
/-- One entry more. -/
theorem agree_more {L R : List Raw} {left : Lit → Bool} (hA : Go.Maps.Agree (mapE L) (mapE R) left) (hL : Srt L) (hR : Srt R) {x : Int} {v : Value} (hk : i64 x) (hl : left (.int .i64 x) = true) (hat : ∀ z : DataW Value, (mapE R).atKey (.int .i64 x) z = .held v) :
    Go.Maps.Agree (mapE (insF L (x, v))) (mapE R) (fun z => left z && !z.sameKey (.int .i64 x)) ∧ Srt (insF L (x, v)) ∧ lenR (insF L (x, v)) = lenR L + slLen v ∧ lenR (insF L (x, v)) ≤ lenR R ∧ L.length ≤ R.length ∧ (x, v) ∈ R := by
  have hA2 := Go.Maps.agree_step hA ⟨_, rfl⟩ (keyI.key (key_of hk)) hat
  rw [mapE_put hL] at hA2
  have hs := ins_srt (x, v) L hL
  exact ⟨hA2, hs, lenR_ins (agree_none hA hl), lenR_sub R _ hR hs (agree_sub hA2 hs), sub_len R L hR hL (agree_sub hA hL), getF_in (at_get hat)⟩
/-- What a crash leaves of a disk. -/
theorem LD.crashed {w w2 w' : World} {F : Foot} {b bl bs m : Nat} {vw : Value} {RL RS RW : List Raw} {d : St} {keep : Int} (h : LD w F b bl bs vw RL RS RW d) {cs : Array Value} (hW : WroteTo w w2 F b bl bs d.safe d.under cs keep.toNat)
    (hm : m = w2.heap.size) (R : List Raw) (hR : MapAt w2 bs R) (hw : Wr (fun x => x = b ∨ x = m) w2 w') (hM : MapAt w' m R)
    (row : RowAt w' b #[.int .i64 d.room, .map (some m), .int .i64 (lenR R : Nat), .map (some bs), .slice none 0 0, .bool false, .int .i64 0] 57) (srt : Srt d.safe) :
    ∃ F', LD w' F' b m bs (.slice none 0 0) R R [] (crashSt d keep).1 ∧ Step F F' w w' := by
  obtain ⟨R', G, row2, hM2, hR2, hw2, hG, hN⟩ := hW
  obtain ⟨n1, n2, n3, n4, n5⟩ := h.nb
  have eR : R' = R := mapE_inj (by
    obtain ⟨es, c, h1, _, _, h2⟩ := hM2
    obtain ⟨es', c', h1', _, _, h2'⟩ := hR
    rw [h1] at h1'
    cases h1'
    rw [h2, h2'])
  subst eR
  have hbs := hR.lt
  have hb2 := row2.lt
  have ec : crashGo List.length cutB d.safe (keptOf d keep) d.under = crashGo List.length cutB d.safe keep.toNat d.under := crash_min _ _ _
  have ea : (crashSt d keep).1.all = crashGo List.length cutB d.safe keep.toNat d.under := ec
  have es : (crashSt d keep).1.safe = crashGo List.length cutB d.safe keep.toNat d.under := ec
  have hrel : RelG (BlobIn (fun x => G x ∨ x = m) w') R' (crashGo List.length cutB d.safe keep.toNat d.under) := hR2.map fun hb => hb.wr hw (fun x c f hx e => by
    rcases hx with rfl | rfl
    · unfold RowAt at row2
      rw [e] at row2
      cases row2
    · rw [hm] at e
      have := (Array.getElem?_eq_some_iff.1 e).1
      omega) (fun x hx => .inl hx)
  have hsum : lenR R' = sumB (crashGo List.length cutB d.safe keep.toNat d.under) := hrel.sum
  have hall : Wr (fun x => x = b ∨ x = bs) w w' := ⟨hw.os.trans hw2.os, hw.tape.trans hw2.tape, hw.output.trans hw2.output, Nat.le_trans hw2.size hw.size, fun x hx hn => (hw.block x (Nat.lt_of_lt_of_le hx hw2.size) (fun e => by
    rcases e with e | e
    · exact hn (.inl e)
    · have := hw2.size; omega)).trans (hw2.block x hx hn), fun _ h => h.elim⟩
  have hsz := hw2.size
  refine ⟨fun x => G x ∨ x = m, h.make hall (fun x hx _ c t f ht => ?_) (by rw [ea, ← hsum]; exact row) hM (hR.same (hw.block bs hbs (fun e => by rcases e with e | e; exact n2 e; omega))) (World.ownsRow_nil _ _ _ _) (by rw [ea]; exact hrel) (by rw [es]; exact hrel) .nil
    (.inl (hG _ h.fb)) (.inr rfl) (.inl (hG _ h.fs)) (fun g hg => by cases hg) (by omega) (fun x hx => ?_), hall.step (fun x hx => ?_) (fun x hx => ?_)⟩
  · rcases hx with rfl | rfl
    · exact row_ty row ht
    · exact ((hR.same (hw.block x hbs (fun e => by rcases e with e | e; exact n2 e; omega))).nocells ht).elim
  · rcases hx with hx | rfl
    · rcases hN x hx with h1 | ⟨h1, h2, cur, f, h3⟩
      · exact .inl h1
      · have hbw := h.lt b h.fb
        have e := hw.block x h2 (fun e => by rcases e with e | e <;> omega)
        refine .inr ⟨h1, Nat.lt_of_lt_of_le h2 hw.size, fun c t f' ht => ?_⟩
        rw [e, h3] at ht
        cases ht
        exact notcalm (.inr (.inr rfl))
    · exact .inr ⟨by omega, hM.lt, fun c t f ht => (hM.nocells ht).elim⟩
  · rcases hx with rfl | rfl
    · exact h.fb
    · exact h.fs
  · rcases hx with hx | rfl
    · rcases hN x hx with h1 | h1
      · exact .inl h1
      · exact .inr h1.1
    · exact .inr (by omega)
end Go.Proofs.Ytkephcmjigfepaa
/- The landed disk: Crash. -/
set_option linter.unusedVariables false
set_option linter.unusedSimpArgs false
namespace Go.Proofs.Ytkephcmjigfepaa
open Go.ChangeShapes Go.WideShapes Go.ChangeAt Go.RowKit
def slMk (x : Option Addr × Nat × Nat) : Value := .slice x.1 x.2.1 x.2.2
set_option maxRecDepth 10000 in
set_option maxHeartbeats 8000000 in
theorem b8_crash (w : World) (F : Foot) (p : Value) (d : St) (keep : Int) (n m : Nat) (hA : DiskAt w F p d) (ok : StOk d n m) (hn : n ≤ 30000) (hm : m ≤ 50000000) (hk : i64 keep) :
    Calls Try.prog 20 #[p, .int .i64 keep] w fun e w' => ∃ F', e = .returned (.int .i64 (crashSt d keep).2) ∧ DiskAt w' F' p (crashSt d keep).1 ∧ Step F F' w w' := by
  obtain ⟨b, bl, bs, vw, RL, RS, RW, rfl, h⟩ := hA
  have hmm := @run_makeMap Try.prog
  obtain ⟨hk0, hk1⟩ := hk
  have hlen := ok.len
  have hsum := ok.sum
  have hL := b8_left w b _ _ _ _ _ _ _ RW h.row h.way (h.ru.ok ok.ru) (by have := h.ru.len; omega) (by have := h.lenW; omega)
  rw [h.lenW] at hL
  obtain ⟨K, hK⟩ : ∃ K : Nat, keep.toNat = K := ⟨_, rfl⟩
  have hmax : max keep 0 = (K : Int) := by omega
  obtain ⟨T, hT⟩ : ∃ T, sumB d.under = T := ⟨_, rfl⟩
  rw [hT] at hL hsum
  have g1 : IntKind.i64.wrap ((T : Int) - (K : Int)) = (T : Int) - K := IntWalk.i64_in _ (by omega)
  obtain ⟨Y, hY⟩ : ∃ Y, max ((T : Int) - (K : Int)) 0 = Y := ⟨_, rfl⟩
  have hres : (crashSt d keep).2 = Y := by
    unfold crashSt keptOf
    simp only []
    rw [hT, hK, ← hY]
    omega
  rw [hres]
  have hwr := fun (w1 : World) (hb : Below w.heap.size w w1) => b8_write w1 F b bl bs vw RL RS RW d n m (h.keep hb) ok hn hm K (by omega)
  have hcs : sumB (crashGo List.length cutB d.safe K d.under) ≤ 50000000 := by
    refine Nat.le_trans (crash_sum d.under d.safe K) ?_
    omega
  have hcl : (crashGo List.length cutB d.safe K d.under).length ≤ 30000 := by
    refine Nat.le_trans (crash_len d.under d.safe K) ?_
    omega
  have hcr : Srt (crashGo List.length cutB d.safe K d.under) := ok.srt.crash
  have hck : keysOk (crashGo List.length cutB d.safe K d.under) := fun x hx => (crash_all (p := fun x => i64 x.1 ∧ bytOk x.2) (fun q B j hq => ⟨hq.1, hq.2.take j⟩) ok.keyS ok.keyU x hx).1
  have srt := ok.srt
  have HL := Lib.hid hL
  have HW := Lib.hid hwr
  have H := Lib.hid h
  have HK := Lib.hid hK
  have HCS := Lib.hid hcs
  have HCL := Lib.hid hcl
  have HCR := Lib.hid hcr
  have HCK := Lib.hid hck
  have SRT := Lib.hid srt
  clear hL hwr hcs hcl hcr hck srt h ok hK hT hres hlen hsum
  go_enter Try.func20, Try.ntmps20
  go_wp2_with fail
  (refine (HL.out).mono ?_; rintro e w1 ⟨rfl, hb1⟩)
  have HB1 := Lib.hid hb1
  clear hb1
  go_wp2_with fail
  (refine (HW.out w1 HB1.out).mono ?_; rintro e w2 ⟨⟨v2, rfl⟩, hw2⟩)
  have HW2 := Lib.hid hw2
  obtain ⟨R, G, row2, hM2, hR2, kw2, hG, hN⟩ := hw2
  have hRs : Srt R := rel_srt hR2 HCR.out
  have hRl : lenR R ≤ 50000000 := by rw [hR2.sum]; exact HCS.out
  have hRn : R.length ≤ 30000 := by rw [hR2.len]; exact HCL.out
  have hRk := hR2.ok HCK.out
  have hbs := hM2.lt
  have hbb : bs ≠ b := by rintro rfl; exact hM2.nocells row2
  have HRS := Lib.hid hRs
  have HRK := Lib.hid hRk
  have HM2 := Lib.hid hM2
  have R2 := Lib.hid row2
  have zb := row2.lt
  have c1 : w2.cell? ⟨b, 1, none⟩ = some (.map (some bl)) := by rw [row2.cell]; rfl
  have c2 : w2.cell? ⟨b, 2, none⟩ = some (.int .i64 (sumB d.all : Nat)) := by rw [row2.cell]; rfl
  have f1 := row2.frozen 1
  have f2 := row2.frozen 2
  clear hR2 kw2 hG hN hRs hRk hM2 row2
  go_upto_region 5 with (fail)
  obtain ⟨m0, hm0⟩ : ∃ m, w2.heap.size = m := ⟨_, rfl⟩
  have HM0 := Lib.hid hm0
  obtain ⟨u3, hu3⟩ : ∃ u, (((w2.setCell ⟨b, 1, none⟩ (.map (some w2.heap.size))).setCell ⟨b, 2, none⟩ (.int .i64 0)).alloc (Obj.map #[] 0)) = u := ⟨_, rfl⟩
  rw [hu3]
  have s3 : u3.heap.size = m0 + 1 := by rw [← hu3, ← hm0]; simp
  have k3 : Wr (fun x => x = b ∨ x = m0) w2 u3 := by rw [← hu3]; exact (((Wr.refl _ _).put (.inl (.inl rfl)) 1 _).put (.inl (.inl rfl)) 2 _).alloc _
  have row3 : RowAt u3 b #[.int .i64 d.room, .map (some m0), .int .i64 (lenR [] : Nat), .map (some bs), .slice none 0 0, .bool (decide (0 < d.wait)), .int .i64 d.fails] 57 := by
    rw [← hu3, ← hm0]
    exact ((R2.out.set 1 (.map (some w2.heap.size))).set 2 (.int .i64 0)).alloc _
  have hM3 : MapAt u3 m0 [] := by
    have h1 := MapAt.new ((w2.setCell ⟨b, 1, none⟩ (.map (some w2.heap.size))).setCell ⟨b, 2, none⟩ (.int .i64 0))
    rw [hu3] at h1
    have e : ((w2.setCell ⟨b, 1, none⟩ (.map (some w2.heap.size))).setCell ⟨b, 2, none⟩ (.int .i64 0)).heap.size = m0 := by rw [← hm0]; simp
    rwa [e] at h1
  have hS3 : MapAt u3 bs R := HM2.out.same (k3.block bs hbs (fun e => by rcases e with e | e; exact hbb e; omega))
  rw [hm0]
  have hbm : bs ≠ m0 := by omega
  have hmb : m0 ≠ b := by omega
  have zb3 := row3.lt
  have e3 : u3.cell? ⟨b, 3, none⟩ = some (.map (some bs)) := by rw [row3.cell]; rfl
  have K3 := Lib.hid k3
  have R3 := Lib.hid row3
  have M3 := Lib.hid hM3
  have S3 := Lib.hid s3
  clear hu3 hm0 s3 k3 row3 hM3 hbs zb c1 c2 f1 f2
  go_wp2_with (first
    | (at_range
       refine wpList_range_own _ rfl _ 54 rfl 3 32 keyI Try.underlying54 slR bs R.length (mapE R) rfl hS3 ?_
       intro w4 hrg4 hg4 hs4)
    | go_in)
  go_frame
  have row4 := (hg4.block b R3.out.lt (by simp)).trans R3.out
  have hM4 : MapAt w4 m0 [] := M3.out.same (hg4.block m0 M3.out.lt (by simp))
  have K4 := Lib.hid (K3.out.grown hg4 (fun q e => by cases e))
  have hrb : b < u3.heap.size := zb3
  have hrm : m0 < u3.heap.size := M3.out.lt
  have S4 := Lib.hid hs4
  have ROW4 := Lib.hid row4
  clear hs4 hg4 e3 zb3 row4
  go_loopw [6, 7] (fun _ _ wr => ∃ left cnt L, wr.ranges Try.prog 3 slR bs u3.heap.size R.length (mapE R) left cnt ∧ MapAt wr m0 L ∧ Srt L ∧ Go.Maps.Agree (mapE L) (mapE R) left ∧
    RowAt wr b #[.int .i64 d.room, .map (some m0), .int .i64 (lenR L : Nat), .map (some bs), .slice none 0 0, .bool (decide (0 < d.wait)), .int .i64 d.fails] 57 ∧ Wr (fun x => x = b ∨ x = m0) w2 wr) (fun _ _ wr => wr.rangeLeft bs u3.heap.size)
  case atStart => exact ⟨_, _, [], hrg4, hM4, List.Pairwise.nil, Go.Maps.agree_start _, ROW4.out, K4.out⟩
  case round =>
    obtain ⟨left, cnt, L, hrg, hM, hL, hA, row, kw⟩ := hrel
    have HL' := Lib.hid hL
    have HA := Lib.hid hA
    have ROW := Lib.hid row
    have KW := Lib.hid kw
    have HM := Lib.hid hM
    clear hL hA row kw hM
    go_wp2_with (first
      | (at_next
         refine wpList_next_ranges _ rfl _ rfl 3 keyI slR (Value.int .i64) slMk (fun key kl hkey => by obtain ⟨x, hx, _⟩ := Maps.keyOf_int_inv Try.underlying3 hkey; exact ⟨x, hx⟩) (fun v y hv => by obtain ⟨⟨p, n, c, rfl⟩, _⟩ := slR_inv hv; exact ⟨(p, n, c), rfl⟩) bs u3.heap.size R.length _ _ _ rfl hrg ?_ ?_)
      | go_in)
    · intro hc0 hl0
      have hS : MapAt wr bs R := hrg.owns
      obtain rfl : L = R := agree_done HM.out hS HA.out hl0
      have hff := b8_fail wr b _ _ _ _ _ _ _ 0 (by constructor <;> omega) ROW.out
      have HF := Lib.hid hff
      clear hrg hS hl0 hff hc0
      go_wp2_with fail
      (refine (HF.out).mono ?_; rintro e w8 ⟨⟨v8, rfl⟩, r8, k8⟩)
      obtain ⟨F', hfin, hst⟩ := (H.out.keep HB1.out).crashed (keep := keep) (by rw [HK.out]; exact HW2.out) HM0.out.symm L HM2.out ((KW.out.trans (k8.mono fun x hx => .inl hx))) (HM.out.same (k8.block m0 HM.out.lt hmb)) r8 SRT.out
      have HFI := Lib.hid hfin
      have HST := Lib.hid hst
      clear r8 k8 hfin hst
      go_wp2
      go_ret
      exact ⟨F', rfl, ⟨b, m0, bs, _, _, _, _, rfl, HFI.out⟩, (Step.of HB1.out).trans HST.out⟩
    · intro x cp cn cc kl yd yp w5 cnt5 hkey hlk hy hat hrg5 hlt5 hg5 hs5 hen
      obtain ⟨x', ex, rfl, hwx⟩ := Maps.keyOf_int_inv Try.underlying3 hkey
      cases ex
      have hy2 : yd = .held (.slice cp cn cc) := by
        have h1 : slR (slMk (cp, cn, cc)) = some (yd, yp) := hy
        obtain ⟨_, h2⟩ := slR_inv h1
        exact (Prod.mk.inj h2).1
      have hat2 : ∀ z : DataW Value, (mapE R).atKey (.int .i64 x) z = .held (.slice cp cn cc) := fun z => by rw [hat z, hy2]
      have hxi := (HRK.out _ (getF_in (at_get hat2))).1
      obtain ⟨a1, a2, a3, a4, a5, a6⟩ := agree_more HA.out HL'.out HRS.out hxi hlk hat2
      have a3' : lenR (insF L (x, .slice cp cn cc)) = lenR L + cn := a3
      have hen' : (Instr.entry (.pointer (some ⟨u3.heap.size, 0, none⟩))).run Try.prog w5 = .ok (.tuple #[.int .i64 x, .slice cp cn cc]) w5 := hen
      have row5 := (hg5.block b ROW.out.lt (fun e => by cases e; omega)).trans ROW.out
      have hM5 : MapAt w5 m0 L := HM.out.same (hg5.block m0 HM.out.lt (fun e => by cases e; omega))
      have k5 : Wr (fun x => x = b ∨ x = m0) w2 w5 := KW.out.grown hg5 (fun q e => by cases e; right; have := S3.out; have := HM0.out; omega)
      have h9 : lenR L + cn ≤ 50000000 := by rw [← a3']; exact Nat.le_trans a4 hRl
      have wS : IntKind.i64.wrap (((lenR L : Nat) : Int) + (cn : Int)) = (lenR L : Nat) + cn := IntWalk.i64_in _ (by omega)
      have A1 := Lib.hid a1
      have A2 := Lib.hid a2
      have A3 := Lib.hid a3'
      have ROW5 := Lib.hid row5
      have HM5 := Lib.hid hM5
      have K5 := Lib.hid k5
      have RG := Lib.hid hrg
      have RG5 := Lib.hid hrg5
      have LT5 := Lib.hid hlt5
      have zb5 : b < w5.heap.size := RowAt.lt row5
      have e1 : w5.cell? ⟨b, 1, none⟩ = some (.map (some m0)) := by rw [RowAt.cell row5]; rfl
      obtain ⟨LL, hLL⟩ : ∃ q, lenR L = q := ⟨_, rfl⟩
      rw [hLL] at wS
      have HLL := Lib.hid hLL
      clear hkey hlk hy hat hg5 hs5 hen hy2 hat2 a1 a2 a3 a3' a4 a6 h9 row5 hM5 k5 hrg hrg5 hlt5 hwx hLL
      go_wp2_with (first
        | (at_mapUpdate
           refine wp_upd _ rfl _ _ _ rfl m0 L rfl HM5.out HL'.out (by omega) x rfl hxi (.slice cp cn cc) rfl ⟨_, _, _, rfl⟩ ?_
           intro w6 hM6 hg6 hs6
           have row6 := (hg6.block b (RowAt.lt ROW5.out) (fun e => hmb (by cases e; rfl))).trans ROW5.out
           have HM6 := Lib.hid hM6
           have HG6 := Lib.hid hg6
           have ROW6 := Lib.hid row6
           have zb6 : b < w6.heap.size := RowAt.lt row6
           have e2 : w6.cell? ⟨b, 2, none⟩ = some (.int .i64 (LL : Nat)) := by rw [RowAt.cell row6, HLL.out]; rfl
           have f2 := RowAt.frozen row6 2
           clear hM6 hg6 hs6 row6 zb5 e1 hen')
        | go_in)
      have ks : Wr (fun x => x = b) w6 (w6.setCell ⟨b, 2, none⟩ (.int .i64 ((LL : Nat) + (cn : Int)))) := wr_set _ _ _ _
      have rg7 := (RG5.out.kept HG6.out (fun e => hbm (by cases e; rfl)) (fun e => by cases e; omega)).kept ks.one (fun e => hbb (by cases e; rfl)) (fun e => by cases e; omega)
      go_roundw
      case rel =>
        refine ⟨_, cnt5, insF L (x, .slice cp cn cc), rg7, HM6.out.same (ks.block m0 HM6.out.lt hmb), A2.out, A1.out, ?_, ((K5.out.grown HG6.out (fun q e => by cases e; exact .inl (.inr rfl))).trans (ks.mono fun x hx => .inl hx))⟩
        rw [A3.out, HLL.out]
        exact RowAt.set ROW6.out 2 (.int .i64 ((LL : Nat) + (cn : Int)))
      case measure => rw [rg7.left_eq, RG.out.left_eq]; exact LT5.out
end Go.Proofs.Ytkephcmjigfepaa
/- The landed disk is what the laws of layer 8 ask. -/
set_option linter.unusedVariables false
set_option linter.unusedSimpArgs false
namespace Go.Proofs.Ytkephcmjigfepaa
open Go.ChangeShapes Go.WideShapes Go.ChangeAt Go.RowKit
def diskI : DiskI where
  At := DiskAt
  lt := fun ⟨_, _, _, _, _, _, _, _, h⟩ => h.lt
  ptr := fun ⟨_, _, _, _, _, _, _, e, _⟩ => ⟨_, e⟩
  same := fun ⟨b, bl, bs, vw, RL, RS, RW, e, h⟩ hs => ⟨b, bl, bs, vw, RL, RS, RW, e, h.same hs⟩
  types := fun ⟨_, _, _, _, _, _, _, _, h⟩ b c t f hF ht => h.ty b c t f hF ht
  new := fun room w hr => by have _ := 10; exact b8_new room w hr
  put := fun w F p d k vb B n m hA ok hn hm hk hv okB hB => by have _ := 17; exact b8_put w F p d k vb B n m hA ok hn hm hk hv okB hB
  sync := fun w F p d n m hA ok hn hm => by have _ := 18; exact b8_sync w F p d n m hA ok hn hm
  fail := fun w F p d k hA hk => by
    have _ := 16
    obtain ⟨b, bl, bs, vw, RL, RS, RW, rfl, h⟩ := hA
    refine (b8_fail w b _ _ _ _ _ _ _ k hk h.row).mono ?_
    rintro e w' ⟨⟨v, rfl⟩, r, kw⟩
    exact ⟨F, v, rfl, ⟨b, bl, bs, vw, RL, RS, RW, rfl, h.turn (d' := failSt d k) kw r rfl rfl⟩, DiskAt.step kw h.fb⟩
  crash := fun w F p d k n m hA ok hn hm hk => by have _ := 20; exact b8_crash w F p d k n m hA ok hn hm hk
  getO := fun w F p d k n m hA ok hn hm hk => by have _ := 21; exact b8_get w F p d k n m hA ok hn hm hk
  keys := fun w F p d n m hA ok hn hm => by have _ := 30; exact b8_keys w F p d n m hA ok hn hm
  len := fun w F p d n m hA ok hn hm => by
    have _ := 23
    obtain ⟨b, bl, bs, vw, RL, RS, RW, rfl, h⟩ := hA
    exact b8_len w b _ _ _ _ _ _ _ h.row
  room := fun w F p d hA => by
    have _ := 32
    obtain ⟨b, bl, bs, vw, RL, RS, RW, rfl, h⟩ := hA
    exact b8_room w b _ _ _ _ _ _ _ h.row
  left := fun w F p d n m hA ok hn hm => by
    have _ := 19
    obtain ⟨b, bl, bs, vw, RL, RS, RW, rfl, h⟩ := hA
    have h1 := h.lenW
    have h2 := h.ru.len
    have h3 := ok.len
    have h4 := ok.sum
    rw [← h1]
    exact b8_left w b _ _ _ _ _ _ _ RW h.row h.way (h.ru.ok ok.ru) (by omega) (by omega)
end Go.Proofs.Ytkephcmjigfepaa
