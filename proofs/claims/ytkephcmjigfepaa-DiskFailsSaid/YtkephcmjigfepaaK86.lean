/- Maps of blobs, read as raw rows whose keys rise (the library's maps, its elements told by the slice itself); laws for the walk. Of the program: types alone. -/
import Derived.Test.YtkephcmjigfepaaK84
import Derived.Maps.RangeWalk
import Derived.Maps.Ext
import Derived.WideKeyEntry
import Derived.Lib.SlKeysI
set_option linter.unusedVariables false
set_option linter.unusedSimpArgs false
namespace Go.Proofs.Ytkephcmjigfepaa
open Go Go.RowKit
open Go.Maps (Keyed)
/-- An element told by its slice. -/
def slR (v : Value) : Option (DataW Value × List MemPlace) :=
  match v with
  | .slice p n c => some (.held (.slice p n c), [])
  | _ => none
theorem slR_mk {v : Value} (h : isSl v) : slR v = some (.held v, []) := by
  obtain ⟨p, n, c, rfl⟩ := h
  rfl
theorem slR_inv {v : Value} {z : DataW Value × List MemPlace} (h : slR v = some z) : isSl v ∧ z = (.held v, []) := by
  unfold slR at h
  split at h
  · cases h; exact ⟨⟨_, _, _, rfl⟩, rfl⟩
  · cases h
def entE (r : Raw) : Lit × DataW Value := (.int .i64 r.1, .held r.2)
def mapE (S : List Raw) : DataW Value := .map (S.map entE)
theorem ent_inj {a b : Raw} (h : entE a = entE b) : a = b := by
  obtain ⟨a1, a2⟩ := a
  obtain ⟨b1, b2⟩ := b
  simp [entE] at h
  rw [h.1, h.2]
theorem map_inj : ∀ {S T : List Raw}, S.map entE = T.map entE → S = T
  | [], [], _ => rfl
  | [], _ :: _, h => by simp at h
  | _ :: _, [], h => by simp at h
  | a :: S, b :: T, h => by
    simp only [List.map_cons, List.cons.injEq] at h
    rw [ent_inj h.1, map_inj h.2]
theorem mapE_inj {S T : List Raw} (h : mapE S = mapE T) : S = T := by
  unfold mapE at h
  exact map_inj (by simpa using h)
theorem same_int (a b : Int) : (Lit.int .i64 a).sameKey (.int .i64 b) = decide (a = b) := by simp [Lit.sameKey]
theorem ins_big (k : Int) (v : Value) : ∀ S : List Raw, (∀ x ∈ S, k < x.1) → DataW.insert (entE (k, v)) (S.map entE) = entE (k, v) :: S.map entE
  | [], _ => rfl
  | x :: S, h => by
    have := h x (List.mem_cons_self ..)
    simp [DataW.insert, entE, Lit.before, this]
theorem filter_big (k : Int) (S : List Raw) (h : ∀ x ∈ S, k < x.1) : (S.map entE).filter (fun p => !p.1.sameKey (.int .i64 k)) = S.map entE := by
  refine List.filter_eq_self.2 fun p hp => ?_
  obtain ⟨x, hx, rfl⟩ := List.mem_map.1 hp
  have := h x hx
  simp [entE, same_int]; omega
theorem put_go (k : Int) (v : Value) : ∀ S : List Raw, Srt S → DataW.insert (entE (k, v)) ((S.map entE).filter (fun p => !p.1.sameKey (.int .i64 k))) = (insF S (k, v)).map entE
  | [], _ => rfl
  | x :: S, h => by
    obtain ⟨h1, h2⟩ := List.pairwise_cons.1 h
    rw [insF, List.map_cons, List.filter_cons]
    by_cases c : k ≤ x.1
    · have hb : ∀ y ∈ S, k < y.1 := fun y hy => by have := h1 y hy; omega
      rw [if_pos c, filter_big k S hb]
      by_cases c2 : x.1 = k
      · rw [if_pos c2, if_neg (by simp [entE, same_int, c2]), ins_big k v S hb, List.map_cons]
      · rw [if_neg c2, if_pos (by simp [entE, same_int, c2]), List.map_cons, List.map_cons]
        have : k < x.1 := by omega
        simp [DataW.insert, entE, Lit.before, this]
    · have c2 : ¬ x.1 = k := by omega
      have c3 : ¬ k < x.1 := by omega
      rw [if_neg c, if_pos (by simp [entE, same_int, c2]), List.map_cons, ← put_go k v S h2]
      simp [DataW.insert, entE, Lit.before, c3]
theorem mapE_put {S : List Raw} (h : Srt S) (k : Int) (v : Value) : (mapE S).put (.int .i64 k) (.held v) = mapE (insF S (k, v)) := by
  unfold mapE DataW.put
  simp only []
  rw [← put_go k v S h]
  rfl
theorem mapE_has (k : Int) : ∀ S : List Raw, Maps.has (mapE S) (.int .i64 k) = (getF S k).isSome
  | [] => rfl
  | x :: S => by
    have ih := mapE_has k S
    unfold mapE at ih ⊢
    rw [Maps.has_eq] at ih ⊢
    rw [List.map_cons, List.any_cons, ih, getF]
    by_cases c : x.1 = k
    · simp [entE, same_int, c]
    · simp [entE, same_int, c]
theorem mapE_at (k : Int) (z : Value) : ∀ S : List Raw, (mapE S).atKey (.int .i64 k) (.held z) = .held ((getF S k).getD z)
  | [] => rfl
  | x :: S => by
    have ih := mapE_at k z S
    unfold mapE at ih ⊢
    simp only [DataW.atKey] at ih ⊢
    rw [List.map_cons, List.find?_cons, getF]
    by_cases c : x.1 = k
    · simp [entE, same_int, c]
    · simp only [entE, same_int, c, decide_false, Bool.false_eq_true, if_false]
      exact ih
theorem mapE_size (S : List Raw) : Maps.size (mapE S) = S.length := by simp [mapE, Maps.size_eq]
theorem mapE_keys (S : List Raw) : intKeys (mapE S) = S.map (·.1) := by
  unfold mapE
  simp [intKeys, entE]
  exact fun _ _ _ => rfl
theorem own_tight {P : Program} {k : TypeId} {R : Value → Option (DataW Value × List MemPlace)} {w : World} {b n : Nat} {D : DataW Value} (h : w.ownsMap P k R b n D) : w.ownsMap P k R b (Maps.size D) D := by
  obtain ⟨es, clock, hb, F, hs, rfl⟩ := h
  exact ⟨es, clock, hb, F, by simp [Maps.size_eq, length_sorted], rfl⟩
theorem keyI : Keyed Try.prog 3 := Go.Maps.int_keyed Try.underlying3
theorem key_of {k : Int} (h : i64 k) : keyOf Try.prog 3 (.int .i64 k) = some (.int .i64 k) := Go.Maps.keyOf_int_mk Try.underlying3 (WalkArith.wf_i64 h)
/-- Block b is a map that reads as those keys and slices. -/
def MapAt (w : World) (b : Nat) (S : List Raw) : Prop := w.ownsMap Try.prog 3 slR b S.length (mapE S)
theorem MapAt.of {w : World} {b n : Nat} {S : List Raw} (h : w.ownsMap Try.prog 3 slR b n (mapE S)) : MapAt w b S := by
  have := own_tight h
  rwa [mapE_size] at this
theorem MapAt.lt {w : World} {b : Nat} {S : List Raw} (h : MapAt w b S) : b < w.heap.size := World.ownsMap.lt h
theorem MapAt.same {w w' : World} {b : Nat} {S : List Raw} (h : MapAt w b S) (e : w'.heap[b]? = w.heap[b]?) : MapAt w' b S := by
  obtain ⟨es, clock, hb, r⟩ := h
  exact ⟨es, clock, e.trans hb, r⟩
theorem MapAt.keep {w w' : World} {b : Nat} {S : List Raw} (h : MapAt w b S) (hb : Below w.heap.size w w') : MapAt w' b S := h.same (hb.block b h.lt)
theorem MapAt.new (w : World) : MapAt (w.alloc (.map #[] 0)) w.heap.size [] := World.ownsMap_made w _ _ _
theorem MapAt.nocells {w : World} {b : Nat} {S : List Raw} (h : MapAt w b S) {c : Array Value} {t : TypeId} {f : Nat × Nat} (hc : w.heap[b]? = some (.cells c t f)) : False := by
  obtain ⟨es, clock, hb, _⟩ := h
  rw [hc] at hb
  cases hb
theorem zero_sl (w : World) : (zeroValue 32).run Try.prog w = .ok (.slice none 0 0) w := by kernel_rfl
theorem MapAt.look {w : World} {b : Nat} {S : List Raw} (h : MapAt w b S) {k : Int} (hk : i64 k) :
    (Instr.lookup 54 (.map (some b)) (.int .i64 k) false).run Try.prog w = .ok ((getF S k).getD (.slice none 0 0)) w := by
  obtain ⟨v, ps, hrun, hv⟩ := World.ownsMap.lookup h keyI Try.underlying54 (zero_sl w) (slR_mk ⟨_, _, _, rfl⟩) (key_of hk)
  obtain ⟨_, e⟩ := slR_inv hv
  rw [mapE_at] at e
  simp only [Prod.mk.injEq, DataW.held.injEq] at e
  rw [hrun, e.1]
theorem MapAt.look2 {w : World} {b : Nat} {S : List Raw} (h : MapAt w b S) {k : Int} (hk : i64 k) :
    (Instr.lookup 54 (.map (some b)) (.int .i64 k) true).run Try.prog w = .ok (.tuple #[(getF S k).getD (.slice none 0 0), .bool (getF S k).isSome]) w := by
  obtain ⟨v, ps, hrun, hv⟩ := World.ownsMap.look_ok h keyI Try.underlying54 (zero_sl w) (slR_mk ⟨_, _, _, rfl⟩) (key_of hk)
  obtain ⟨_, e⟩ := slR_inv hv
  rw [mapE_at] at e
  simp only [Prod.mk.injEq, DataW.held.injEq] at e
  rw [hrun, e.1, mapE_has]
theorem MapAt.upd {w : World} {b : Nat} {S : List Raw} (h : MapAt w b S) (hs : Srt S) {k : Int} (hk : i64 k) {v : Value} (hv : isSl v) (hn : S.length ≤ 1000000) :
    ∃ w', (Instr.mapUpdate 54 (.map (some b)) (.int .i64 k) v).run Try.prog w = .ok () w' ∧ MapAt w' b (insF S (k, v)) ∧ w.mapTurned w' b := by
  obtain ⟨w', hrun, h2, ht⟩ := World.ownsMap.store h keyI Try.underlying54 (by simp only [maxLen]; omega) (key_of hk) (slR_mk hv)
  rw [mapE_put hs] at h2
  exact ⟨w', hrun, .of h2, ht⟩
theorem turned_size {w w' : World} {b : Nat} (h : w.mapTurned w' b) : w'.heap.size = w.heap.size := by
  obtain ⟨es, clock, es', clock', hb, rfl⟩ := h
  simp [ChangeMaps.setBlock]
theorem turned_of {w : World} {b : Nat} {es : Array MapEntry} {clock : Nat} (hb : w.heap[b]? = some (.map es clock)) (es' : Array MapEntry) (clock' : Nat) : w.mapTurned (ChangeMaps.setBlock w b (.map es' clock')) b := ⟨es, clock, es', clock', hb, rfl⟩
open Go.WideElems Go.ChangeMaps in
theorem MapAt.entry {w : World} {b : Nat} {S : List Raw} (h : MapAt w b S) (hs : Srt S) {k : Int} (hk : i64 k) (hn : S.length ≤ 1000000) :
    ∃ v0 st w1, (Instr.mapEntry 54 (.map (some b)) (.int .i64 k)).run Try.prog w = .ok (.tuple #[v0, goInt (st : Nat)]) w1 ∧ w.mapTurned w1 b ∧
      ∀ y : Value, isSl y → ∃ w2, (Instr.entryStore 54 (.map (some b)) (goInt (st : Nat)) y).run Try.prog w1 = .ok () w2 ∧ MapAt w2 b (insF S (k, y)) ∧ w1.mapTurned w2 b := by
  have hup := fun (y : Value) (hy : isSl y) => h.upd hs hk hy hn
  obtain ⟨es, clock, hb, F, hsz, hD⟩ := h
  obtain ⟨s1, s2, _⟩ := F.stamped
  have hkey := key_of hk
  have ht := Try.underlying54
  have hz := zero_sl
  generalize hkv : Value.int .i64 k = key at *
  rcases keyI.find w hkey es.toList F.keys with ⟨h1, h2⟩ | ⟨j, e0, h1, h2, h3⟩
  · refine ⟨.slice none 0 0, clock, setBlock w b (.map (es.push ⟨key, .slice none 0 0, clock⟩) (clock + 1)), ?_, turned_of hb _ _, fun y hy => ?_⟩
    · simp [Instr.mapEntry, run_underlying ht, MapKept.run_getObj_map hb, keyI.check w false hkey, h1, hz, MapKept.run_setObj_map _ hb, Result.andThen, setBlock]
    · obtain ⟨w', hrun, hM, _⟩ := hup y hy
      have hidx : (es.push ⟨key, .slice none 0 0, clock⟩).findIdx? (fun e => ((e.born : Nat) : Int) == ((clock : Nat) : Int)) = some es.size := by
        rw [findIdx_arr]
        have := findIdx_born (l := (es.push ⟨key, .slice none 0 0, clock⟩).toList) (j := es.size) (e0 := ⟨key, .slice none 0 0, clock⟩) (by
          simp only [Array.toList_push, List.map_append, List.map_cons, List.map_nil]
          refine List.nodup_append.2 ⟨s2, by simp, fun a ha c hc e1 => ?_⟩
          simp only [List.mem_singleton] at hc
          obtain ⟨x, hx, rfl⟩ := List.mem_map.1 ha
          have := s1 x hx
          omega) (by simp)
        exact this
      have hmod : (es.push ⟨key, .slice none 0 0, clock⟩).modify es.size (fun e => { e with val := y }) = es.push ⟨key, y, clock⟩ := by
        apply Array.ext'
        rw [Array.toList_modify, Array.toList_push, Array.toList_push, ← Array.length_toList, modify_last]
      have hb1 := heap_setBlock_same hb (.map (es.push ⟨key, .slice none 0 0, clock⟩) (clock + 1))
      have e1 : (Instr.mapUpdate 54 (.map (some b)) key y).run Try.prog w = .ok () (setBlock w b (.map (es.push ⟨key, y, clock⟩) (clock + 1))) := by
        simp [Instr.mapUpdate, run_underlying ht, MapKept.run_getObj_map hb, keyI.check w false hkey, h1, MapKept.run_setObj_map _ hb, Result.andThen, setBlock]
      rw [e1] at hrun
      cases hrun
      refine ⟨setBlock (setBlock w b (.map (es.push ⟨key, .slice none 0 0, clock⟩) (clock + 1))) b (.map (es.push ⟨key, y, clock⟩) (clock + 1)), ?_, hM.same ((heap_setBlock_same hb1 _).trans (heap_setBlock_same hb _).symm), turned_of hb1 _ _⟩
      simp [Instr.entryStore, MapKept.run_getObj_map hb1, asInt, asIntOf, goInt, hidx, hmod, MapKept.run_setObj_map _ hb1, Result.andThen]
      rfl
  · have hj : es[j]? = some e0 := by simpa using h2
    have hsame : es.modify j (fun e => { e with key := key }) = es := by
      apply Array.ext'
      rw [Array.toList_modify, modify_eq_set _ _ _ _ h2]
      have : ({ e0 with key := key } : MapEntry) = e0 := by rw [← h3]
      rw [this]
      exact set_self _ _ _ h2
    refine ⟨e0.val, e0.born, setBlock w b (.map es clock), ?_, turned_of hb _ _, fun y hy => ?_⟩
    · simp [Instr.mapEntry, run_underlying ht, MapKept.run_getObj_map hb, keyI.check w false hkey, h1, hj, h3, keyI.stays w hkey, hsame, MapKept.run_setObj_map _ hb, Result.andThen, setBlock]
    · obtain ⟨w', hrun, hM, _⟩ := hup y hy
      have hidx : es.findIdx? (fun e => ((e.born : Nat) : Int) == ((e0.born : Nat) : Int)) = some j := by
        rw [findIdx_arr]
        exact findIdx_born s2 h2
      have hmod : es.modify j (fun e => { e with val := y }) = es.modify j (fun e' => { e' with key := key, val := y }) := by
        apply Array.ext'
        rw [Array.toList_modify, Array.toList_modify, modify_eq_set _ _ _ _ h2, modify_eq_set _ _ _ _ h2, ← h3]
      have hb1 := heap_setBlock_same hb (.map es clock)
      have e1 : (Instr.mapUpdate 54 (.map (some b)) key y).run Try.prog w = .ok () (setBlock w b (.map (es.modify j (fun e' => { e' with key := key, val := y })) clock)) := by
        simp [Instr.mapUpdate, run_underlying ht, MapKept.run_getObj_map hb, keyI.check w false hkey, h1, hj, h3, keyI.stays w hkey, MapKept.run_setObj_map _ hb, Result.andThen, setBlock]
      rw [e1] at hrun
      cases hrun
      refine ⟨setBlock (setBlock w b (.map es clock)) b (.map (es.modify j (fun e' => { e' with key := key, val := y })) clock), ?_, hM.same ((heap_setBlock_same hb1 _).trans (heap_setBlock_same hb _).symm), turned_of hb1 _ _⟩
      simp [Instr.entryStore, MapKept.run_getObj_map hb1, asInt, asIntOf, goInt, hidx, hmod, MapKept.run_setObj_map _ hb1, Result.andThen]
      rfl
section
variable {ops : Array Oper} {rest : List Oper} {o : Oper} {a : Act} {Q : Exit → Act → World → Prop}
/-- m[k] = v -/
theorem wp_upd (w : World) (hg : o.guard = none) (m x v : Operand) (hop : o.op = Op.mapUpdate 54 m x v) (b : Nat) (S : List Raw) (hm : a.eval m = .map (some b)) (h : MapAt w b S) (hs : Srt S) (hn : S.length ≤ 1000000)
    (k : Int) (hx : a.eval x = .int .i64 k) (hk : i64 k) (y : Value) (hv : a.eval v = y) (hy : isSl y)
    (hK : ∀ w', MapAt w' b (insF S (k, y)) → w.grownBy w' (some b) → w'.heap.size = w.heap.size → wpList Try.prog ops Q rest (a.put o.dst undef) w') : wpList Try.prog ops Q (o :: rest) a w := by
  refine wpList_plain hg fun K' hK' => ?_
  obtain ⟨w', hrun, h2, ht⟩ := h.upd hs hk hy hn
  unfold Oper.wp
  simp [execOp, hop, hm, hx, hv, hrun, Result.andThen]
  exact hK' _ _ (hK w' h2 ht.grown (turned_size ht))
/-- m[k], .. = v, ..: the entry ahead of the store. -/
theorem wp_entry (w : World) (hg : o.guard = none) (m x : Operand) (hop : o.op = Op.mapEntry 54 m x) (b : Nat) (S : List Raw) (hm : a.eval m = .map (some b)) (h : MapAt w b S) (hs : Srt S) (hn : S.length ≤ 1000000)
    (k : Int) (hx : a.eval x = .int .i64 k) (hk : i64 k)
    (hK : ∀ w' v0 (st : Nat), w.grownBy w' (some b) → w'.heap.size = w.heap.size → (∀ y : Value, isSl y → ∃ w2, (Instr.entryStore 54 (.map (some b)) (goInt st) y).run Try.prog w' = .ok () w2 ∧ MapAt w2 b (insF S (k, y)) ∧ w'.grownBy w2 (some b) ∧ w2.heap.size = w'.heap.size) →
      wpList Try.prog ops Q rest (a.put o.dst (.tuple #[v0, goInt st])) w') : wpList Try.prog ops Q (o :: rest) a w := by
  refine wpList_plain hg fun K' hK' => ?_
  obtain ⟨v0, st, w1, hrun, ht, h2⟩ := h.entry hs hk hn
  unfold Oper.wp
  simp [execOp, hop, hm, hx, hrun, Result.andThen]
  refine hK' _ _ (hK w1 v0 st ht.grown (turned_size ht) fun y hy => ?_)
  obtain ⟨w2, h3, h4, h5⟩ := h2 y hy
  exact ⟨w2, h3, h4, h5.grown, turned_size h5⟩
end
/-- Two maps as read, of which one has been laid out of the other, are one. -/
theorem agree_done {L S : List Raw} {w w' : World} {b c : Nat} (h : MapAt w b L) (k : MapAt w' c S) {left : Lit → Bool} (hA : Go.Maps.Agree (mapE L) (mapE S) left) (hl : ∀ x, left x = false) : L = S :=
  mapE_inj (Go.Maps.agree_end hA hl (World.ownsMap.canon h keyI) (World.ownsMap.canon k keyI))
end Go.Proofs.Ytkephcmjigfepaa
