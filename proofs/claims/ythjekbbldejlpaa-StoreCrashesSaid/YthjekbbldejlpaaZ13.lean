/- Texts behind each other. -/
import Derived.Test.YthjekbbldejlpaaZ09
import Derived.Maps.RangeWalk
import Derived.Maps.Ext
import Derived.WideKeyEntry
import Derived.Lib.SlKeysI
import Derived.Test.YthjekbbldejlpaaZ10
import Derived.Test.YthjekbbldejlpaaShelf
import Derived.Test.YthjekbbldejlpaaZ12
/- Maps of blobs, read as raw rows whose keys rise (the library's maps, its elements told by the slice itself); laws for the walk. Of the program: types alone. -/
set_option linter.unusedVariables false
set_option linter.unusedSimpArgs false
namespace Go.Proofs.Ythjekbbldejlpaa
open Go Go.RowKit
open Go.Maps (Keyed)
/-- An element told by its slice. -/
def slR (v : Value) : Option (DataW Value × List MemPlace) :=
  match v with
  | .slice p n c => some (.held (.slice p n c), [])
  | _ => none
theorem slR_mk {v : Value} (h : isSl v) : slR v = some (.held v, []) := by
  obtain ⟨p, n, c, rfl⟩ := h
  rfl
theorem slR_inv {v : Value} {z : DataW Value × List MemPlace} (h : slR v = some z) : isSl v ∧ z = (.held v, []) := by
  unfold slR at h
  split at h
  · cases h; exact ⟨⟨_, _, _, rfl⟩, rfl⟩
  · cases h
def entE (r : Raw) : Lit × DataW Value := (.int .i64 r.1, .held r.2)
def mapE (S : List Raw) : DataW Value := .map (S.map entE)
theorem ent_inj {a b : Raw} (h : entE a = entE b) : a = b := by
  obtain ⟨a1, a2⟩ := a
  obtain ⟨b1, b2⟩ := b
  simp [entE] at h
  rw [h.1, h.2]
theorem map_inj : ∀ {S T : List Raw}, S.map entE = T.map entE → S = T
  | [], [], _ => rfl
  | [], _ :: _, h => by simp at h
  | _ :: _, [], h => by simp at h
  | a :: S, b :: T, h => by
    simp only [List.map_cons, List.cons.injEq] at h
    rw [ent_inj h.1, map_inj h.2]
theorem mapE_inj {S T : List Raw} (h : mapE S = mapE T) : S = T := by
  unfold mapE at h
  exact map_inj (by simpa using h)
theorem same_int (a b : Int) : (Lit.int .i64 a).sameKey (.int .i64 b) = decide (a = b) := by simp [Lit.sameKey]
theorem ins_big (k : Int) (v : Value) : ∀ S : List Raw, (∀ x ∈ S, k < x.1) → DataW.insert (entE (k, v)) (S.map entE) = entE (k, v) :: S.map entE
  | [], _ => rfl
  | x :: S, h => by
    have := h x (List.mem_cons_self ..)
    simp [DataW.insert, entE, Lit.before, this]
theorem filter_big (k : Int) (S : List Raw) (h : ∀ x ∈ S, k < x.1) : (S.map entE).filter (fun p => !p.1.sameKey (.int .i64 k)) = S.map entE := by
  refine List.filter_eq_self.2 fun p hp => ?_
  obtain ⟨x, hx, rfl⟩ := List.mem_map.1 hp
  have := h x hx
  simp [entE, same_int]; omega
theorem put_go (k : Int) (v : Value) : ∀ S : List Raw, Srt S → DataW.insert (entE (k, v)) ((S.map entE).filter (fun p => !p.1.sameKey (.int .i64 k))) = (insF S (k, v)).map entE
  | [], _ => rfl
  | x :: S, h => by
    obtain ⟨h1, h2⟩ := List.pairwise_cons.1 h
    rw [insF, List.map_cons, List.filter_cons]
    by_cases c : k ≤ x.1
    · have hb : ∀ y ∈ S, k < y.1 := fun y hy => by have := h1 y hy; omega
      rw [if_pos c, filter_big k S hb]
      by_cases c2 : x.1 = k
      · rw [if_pos c2, if_neg (by simp [entE, same_int, c2]), ins_big k v S hb, List.map_cons]
      · rw [if_neg c2, if_pos (by simp [entE, same_int, c2]), List.map_cons, List.map_cons]
        have : k < x.1 := by omega
        simp [DataW.insert, entE, Lit.before, this]
    · have c2 : ¬ x.1 = k := by omega
      have c3 : ¬ k < x.1 := by omega
      rw [if_neg c, if_pos (by simp [entE, same_int, c2]), List.map_cons, ← put_go k v S h2]
      simp [DataW.insert, entE, Lit.before, c3]
theorem mapE_put {S : List Raw} (h : Srt S) (k : Int) (v : Value) : (mapE S).put (.int .i64 k) (.held v) = mapE (insF S (k, v)) := by
  unfold mapE DataW.put
  simp only []
  rw [← put_go k v S h]
  rfl
theorem mapE_has (k : Int) : ∀ S : List Raw, Maps.has (mapE S) (.int .i64 k) = (getF S k).isSome
  | [] => rfl
  | x :: S => by
    have ih := mapE_has k S
    unfold mapE at ih ⊢
    rw [Maps.has_eq] at ih ⊢
    rw [List.map_cons, List.any_cons, ih, getF]
    by_cases c : x.1 = k
    · simp [entE, same_int, c]
    · simp [entE, same_int, c]
theorem mapE_at (k : Int) (z : Value) : ∀ S : List Raw, (mapE S).atKey (.int .i64 k) (.held z) = .held ((getF S k).getD z)
  | [] => rfl
  | x :: S => by
    have ih := mapE_at k z S
    unfold mapE at ih ⊢
    simp only [DataW.atKey] at ih ⊢
    rw [List.map_cons, List.find?_cons, getF]
    by_cases c : x.1 = k
    · simp [entE, same_int, c]
    · simp only [entE, same_int, c, decide_false, Bool.false_eq_true, if_false]
      exact ih
theorem mapE_size (S : List Raw) : Maps.size (mapE S) = S.length := by simp [mapE, Maps.size_eq]
theorem mapE_keys (S : List Raw) : intKeys (mapE S) = S.map (·.1) := by
  unfold mapE
  simp [intKeys, entE]
  exact fun _ _ _ => rfl
theorem own_tight {P : Program} {k : TypeId} {R : Value → Option (DataW Value × List MemPlace)} {w : World} {b n : Nat} {D : DataW Value} (h : w.ownsMap P k R b n D) : w.ownsMap P k R b (Maps.size D) D := by
  obtain ⟨es, clock, hb, F, hs, rfl⟩ := h
  exact ⟨es, clock, hb, F, by simp [Maps.size_eq, length_sorted], rfl⟩
theorem keyI : Keyed Try.prog 3 := Go.Maps.int_keyed Try.underlying3
theorem key_of {k : Int} (h : i64 k) : keyOf Try.prog 3 (.int .i64 k) = some (.int .i64 k) := Go.Maps.keyOf_int_mk Try.underlying3 (WalkArith.wf_i64 h)
/-- Block b is a map that reads as those keys and slices. -/
def MapAt (w : World) (b : Nat) (S : List Raw) : Prop := w.ownsMap Try.prog 3 slR b S.length (mapE S)
theorem MapAt.of {w : World} {b n : Nat} {S : List Raw} (h : w.ownsMap Try.prog 3 slR b n (mapE S)) : MapAt w b S := by
  have := own_tight h
  rwa [mapE_size] at this
theorem MapAt.lt {w : World} {b : Nat} {S : List Raw} (h : MapAt w b S) : b < w.heap.size := World.ownsMap.lt h
theorem MapAt.same {w w' : World} {b : Nat} {S : List Raw} (h : MapAt w b S) (e : w'.heap[b]? = w.heap[b]?) : MapAt w' b S := by
  obtain ⟨es, clock, hb, r⟩ := h
  exact ⟨es, clock, e.trans hb, r⟩
theorem MapAt.keep {w w' : World} {b : Nat} {S : List Raw} (h : MapAt w b S) (hb : Below w.heap.size w w') : MapAt w' b S := h.same (hb.block b h.lt)
theorem MapAt.new (w : World) : MapAt (w.alloc (.map #[] 0)) w.heap.size [] := World.ownsMap_made w _ _ _
theorem MapAt.nocells {w : World} {b : Nat} {S : List Raw} (h : MapAt w b S) {c : Array Value} {t : TypeId} {f : Nat × Nat} (hc : w.heap[b]? = some (.cells c t f)) : False := by
  obtain ⟨es, clock, hb, _⟩ := h
  rw [hc] at hb
  cases hb
theorem zero_sl (w : World) : (zeroValue 22).run Try.prog w = .ok (.slice none 0 0) w := by kernel_rfl
theorem MapAt.look {w : World} {b : Nat} {S : List Raw} (h : MapAt w b S) {k : Int} (hk : i64 k) :
    (Instr.lookup 86 (.map (some b)) (.int .i64 k) false).run Try.prog w = .ok ((getF S k).getD (.slice none 0 0)) w := by
  obtain ⟨v, ps, hrun, hv⟩ := World.ownsMap.lookup h keyI Try.underlying86 (zero_sl w) (slR_mk ⟨_, _, _, rfl⟩) (key_of hk)
  obtain ⟨_, e⟩ := slR_inv hv
  rw [mapE_at] at e
  simp only [Prod.mk.injEq, DataW.held.injEq] at e
  rw [hrun, e.1]
theorem MapAt.look2 {w : World} {b : Nat} {S : List Raw} (h : MapAt w b S) {k : Int} (hk : i64 k) :
    (Instr.lookup 86 (.map (some b)) (.int .i64 k) true).run Try.prog w = .ok (.tuple #[(getF S k).getD (.slice none 0 0), .bool (getF S k).isSome]) w := by
  obtain ⟨v, ps, hrun, hv⟩ := World.ownsMap.look_ok h keyI Try.underlying86 (zero_sl w) (slR_mk ⟨_, _, _, rfl⟩) (key_of hk)
  obtain ⟨_, e⟩ := slR_inv hv
  rw [mapE_at] at e
  simp only [Prod.mk.injEq, DataW.held.injEq] at e
  rw [hrun, e.1, mapE_has]
theorem MapAt.upd {w : World} {b : Nat} {S : List Raw} (h : MapAt w b S) (hs : Srt S) {k : Int} (hk : i64 k) {v : Value} (hv : isSl v) (hn : S.length ≤ 1000000) :
    ∃ w', (Instr.mapUpdate 86 (.map (some b)) (.int .i64 k) v).run Try.prog w = .ok () w' ∧ MapAt w' b (insF S (k, v)) ∧ w.mapTurned w' b := by
  obtain ⟨w', hrun, h2, ht⟩ := World.ownsMap.store h keyI Try.underlying86 (by simp only [maxLen]; omega) (key_of hk) (slR_mk hv)
  rw [mapE_put hs] at h2
  exact ⟨w', hrun, .of h2, ht⟩
theorem turned_size {w w' : World} {b : Nat} (h : w.mapTurned w' b) : w'.heap.size = w.heap.size := by
  obtain ⟨es, clock, es', clock', hb, rfl⟩ := h
  simp [ChangeMaps.setBlock]
theorem turned_of {w : World} {b : Nat} {es : Array MapEntry} {clock : Nat} (hb : w.heap[b]? = some (.map es clock)) (es' : Array MapEntry) (clock' : Nat) : w.mapTurned (ChangeMaps.setBlock w b (.map es' clock')) b := ⟨es, clock, es', clock', hb, rfl⟩
open Go.WideElems Go.ChangeMaps in
theorem MapAt.entry {w : World} {b : Nat} {S : List Raw} (h : MapAt w b S) (hs : Srt S) {k : Int} (hk : i64 k) (hn : S.length ≤ 1000000) :
    ∃ v0 st w1, (Instr.mapEntry 86 (.map (some b)) (.int .i64 k)).run Try.prog w = .ok (.tuple #[v0, goInt (st : Nat)]) w1 ∧ w.mapTurned w1 b ∧
      ∀ y : Value, isSl y → ∃ w2, (Instr.entryStore 86 (.map (some b)) (goInt (st : Nat)) y).run Try.prog w1 = .ok () w2 ∧ MapAt w2 b (insF S (k, y)) ∧ w1.mapTurned w2 b := by
  have hup := fun (y : Value) (hy : isSl y) => h.upd hs hk hy hn
  obtain ⟨es, clock, hb, F, hsz, hD⟩ := h
  obtain ⟨s1, s2, _⟩ := F.stamped
  have hkey := key_of hk
  have ht := Try.underlying86
  have hz := zero_sl
  generalize hkv : Value.int .i64 k = key at *
  rcases keyI.find w hkey es.toList F.keys with ⟨h1, h2⟩ | ⟨j, e0, h1, h2, h3⟩
  · refine ⟨.slice none 0 0, clock, setBlock w b (.map (es.push ⟨key, .slice none 0 0, clock⟩) (clock + 1)), ?_, turned_of hb _ _, fun y hy => ?_⟩
    · simp [Instr.mapEntry, run_underlying ht, MapKept.run_getObj_map hb, keyI.check w false hkey, h1, hz, MapKept.run_setObj_map _ hb, Result.andThen, setBlock]
    · obtain ⟨w', hrun, hM, _⟩ := hup y hy
      have hidx : (es.push ⟨key, .slice none 0 0, clock⟩).findIdx? (fun e => ((e.born : Nat) : Int) == ((clock : Nat) : Int)) = some es.size := by
        rw [findIdx_arr]
        have := findIdx_born (l := (es.push ⟨key, .slice none 0 0, clock⟩).toList) (j := es.size) (e0 := ⟨key, .slice none 0 0, clock⟩) (by
          simp only [Array.toList_push, List.map_append, List.map_cons, List.map_nil]
          refine List.nodup_append.2 ⟨s2, by simp, fun a ha c hc e1 => ?_⟩
          simp only [List.mem_singleton] at hc
          obtain ⟨x, hx, rfl⟩ := List.mem_map.1 ha
          have := s1 x hx
          omega) (by simp)
        exact this
      have hmod : (es.push ⟨key, .slice none 0 0, clock⟩).modify es.size (fun e => { e with val := y }) = es.push ⟨key, y, clock⟩ := by
        apply Array.ext'
        rw [Array.toList_modify, Array.toList_push, Array.toList_push, ← Array.length_toList, modify_last]
      have hb1 := heap_setBlock_same hb (.map (es.push ⟨key, .slice none 0 0, clock⟩) (clock + 1))
      have e1 : (Instr.mapUpdate 86 (.map (some b)) key y).run Try.prog w = .ok () (setBlock w b (.map (es.push ⟨key, y, clock⟩) (clock + 1))) := by
        simp [Instr.mapUpdate, run_underlying ht, MapKept.run_getObj_map hb, keyI.check w false hkey, h1, MapKept.run_setObj_map _ hb, Result.andThen, setBlock]
      rw [e1] at hrun
      cases hrun
      refine ⟨setBlock (setBlock w b (.map (es.push ⟨key, .slice none 0 0, clock⟩) (clock + 1))) b (.map (es.push ⟨key, y, clock⟩) (clock + 1)), ?_, hM.same ((heap_setBlock_same hb1 _).trans (heap_setBlock_same hb _).symm), turned_of hb1 _ _⟩
      simp [Instr.entryStore, MapKept.run_getObj_map hb1, asInt, asIntOf, goInt, hidx, hmod, MapKept.run_setObj_map _ hb1, Result.andThen]
      rfl
  · have hj : es[j]? = some e0 := by simpa using h2
    have hsame : es.modify j (fun e => { e with key := key }) = es := by
      apply Array.ext'
      rw [Array.toList_modify, modify_eq_set _ _ _ _ h2]
      have : ({ e0 with key := key } : MapEntry) = e0 := by rw [← h3]
      rw [this]
      exact set_self _ _ _ h2
    refine ⟨e0.val, e0.born, setBlock w b (.map es clock), ?_, turned_of hb _ _, fun y hy => ?_⟩
    · simp [Instr.mapEntry, run_underlying ht, MapKept.run_getObj_map hb, keyI.check w false hkey, h1, hj, h3, keyI.stays w hkey, hsame, MapKept.run_setObj_map _ hb, Result.andThen, setBlock]
    · obtain ⟨w', hrun, hM, _⟩ := hup y hy
      have hidx : es.findIdx? (fun e => ((e.born : Nat) : Int) == ((e0.born : Nat) : Int)) = some j := by
        rw [findIdx_arr]
        exact findIdx_born s2 h2
      have hmod : es.modify j (fun e => { e with val := y }) = es.modify j (fun e' => { e' with key := key, val := y }) := by
        apply Array.ext'
        rw [Array.toList_modify, Array.toList_modify, modify_eq_set _ _ _ _ h2, modify_eq_set _ _ _ _ h2, ← h3]
      have hb1 := heap_setBlock_same hb (.map es clock)
      have e1 : (Instr.mapUpdate 86 (.map (some b)) key y).run Try.prog w = .ok () (setBlock w b (.map (es.modify j (fun e' => { e' with key := key, val := y })) clock)) := by
        simp [Instr.mapUpdate, run_underlying ht, MapKept.run_getObj_map hb, keyI.check w false hkey, h1, hj, h3, keyI.stays w hkey, MapKept.run_setObj_map _ hb, Result.andThen, setBlock]
      rw [e1] at hrun
      cases hrun
      refine ⟨setBlock (setBlock w b (.map es clock)) b (.map (es.modify j (fun e' => { e' with key := key, val := y })) clock), ?_, hM.same ((heap_setBlock_same hb1 _).trans (heap_setBlock_same hb _).symm), turned_of hb1 _ _⟩
      simp [Instr.entryStore, MapKept.run_getObj_map hb1, asInt, asIntOf, goInt, hidx, hmod, MapKept.run_setObj_map _ hb1, Result.andThen]
      rfl
section
variable {ops : Array Oper} {rest : List Oper} {o : Oper} {a : Act} {Q : Exit → Act → World → Prop}
/-- m[k] = v -/
theorem wp_upd (w : World) (hg : o.guard = none) (m x v : Operand) (hop : o.op = Op.mapUpdate 86 m x v) (b : Nat) (S : List Raw) (hm : a.eval m = .map (some b)) (h : MapAt w b S) (hs : Srt S) (hn : S.length ≤ 1000000)
    (k : Int) (hx : a.eval x = .int .i64 k) (hk : i64 k) (y : Value) (hv : a.eval v = y) (hy : isSl y)
    (hK : ∀ w', MapAt w' b (insF S (k, y)) → w.grownBy w' (some b) → w'.heap.size = w.heap.size → wpList Try.prog ops Q rest (a.put o.dst undef) w') : wpList Try.prog ops Q (o :: rest) a w := by
  refine wpList_plain hg fun K' hK' => ?_
  obtain ⟨w', hrun, h2, ht⟩ := h.upd hs hk hy hn
  unfold Oper.wp
  simp [execOp, hop, hm, hx, hv, hrun, Result.andThen]
  exact hK' _ _ (hK w' h2 ht.grown (turned_size ht))
/-- m[k], .. = v, ..: the entry ahead of the store. -/
theorem wp_entry (w : World) (hg : o.guard = none) (m x : Operand) (hop : o.op = Op.mapEntry 86 m x) (b : Nat) (S : List Raw) (hm : a.eval m = .map (some b)) (h : MapAt w b S) (hs : Srt S) (hn : S.length ≤ 1000000)
    (k : Int) (hx : a.eval x = .int .i64 k) (hk : i64 k)
    (hK : ∀ w' v0 (st : Nat), w.grownBy w' (some b) → w'.heap.size = w.heap.size → (∀ y : Value, isSl y → ∃ w2, (Instr.entryStore 86 (.map (some b)) (goInt st) y).run Try.prog w' = .ok () w2 ∧ MapAt w2 b (insF S (k, y)) ∧ w'.grownBy w2 (some b) ∧ w2.heap.size = w'.heap.size) →
      wpList Try.prog ops Q rest (a.put o.dst (.tuple #[v0, goInt st])) w') : wpList Try.prog ops Q (o :: rest) a w := by
  refine wpList_plain hg fun K' hK' => ?_
  obtain ⟨v0, st, w1, hrun, ht, h2⟩ := h.entry hs hk hn
  unfold Oper.wp
  simp [execOp, hop, hm, hx, hrun, Result.andThen]
  refine hK' _ _ (hK w1 v0 st ht.grown (turned_size ht) fun y hy => ?_)
  obtain ⟨w2, h3, h4, h5⟩ := h2 y hy
  exact ⟨w2, h3, h4, h5.grown, turned_size h5⟩
end
/-- Two maps as read, of which one has been laid out of the other, are one. -/
theorem agree_done {L S : List Raw} {w w' : World} {b c : Nat} (h : MapAt w b L) (k : MapAt w' c S) {left : Lit → Bool} (hA : Go.Maps.Agree (mapE L) (mapE S) left) (hl : ∀ x, left x = false) : L = S :=
  mapE_inj (Go.Maps.agree_end hA hl (World.ownsMap.canon h keyI) (World.ownsMap.canon k keyI))
end Go.Proofs.Ythjekbbldejlpaa
/- The landed disk in memory: words; contracts of its small functions. -/
set_option linter.unusedVariables false
set_option linter.unusedSimpArgs false
namespace Go.Proofs.Ythjekbbldejlpaa
open Go.ChangeShapes Go.WideShapes Go.ChangeAt Go.RowKit
/-- What is written outside X is new. -/
abbrev Wr (X : Foot) (w w' : World) : Prop := Step X (fun _ => False) w w'
theorem Wr.of {X : Foot} {w w' : World} (hb : Below w.heap.size w w') : Wr X w w' := ⟨hb.os, hb.tape, hb.output, hb.size, fun b h _ => hb.block b h, fun b h => h.elim⟩
theorem Wr.refl (X : Foot) (w : World) : Wr X w w := Wr.of (Below.refl _ _)
theorem Wr.mono {X Y : Foot} {w w' : World} (h : Wr X w w') (hx : ∀ b, X b → Y b) : Wr Y w w' := ⟨h.os, h.tape, h.output, h.size, fun b hb hn => h.block b hb (fun hX => hn (hx b hX)), fun b h => h.elim⟩
theorem Wr.trans {X : Foot} {a b c : World} (h : Wr X a b) (k : Wr X b c) : Wr X a c :=
  ⟨k.os.trans h.os, k.tape.trans h.tape, k.output.trans h.output, Nat.le_trans h.size k.size, fun x hx hn => (k.block x (Nat.lt_of_lt_of_le hx h.size) hn).trans (h.block x hx hn), fun b h => h.elim⟩
theorem Wr.setCell {X : Foot} {a b : World} (h : Wr X a b) {p : Addr} (hp : X p.block ∨ a.heap.size ≤ p.block) (v : Value) : Wr X a (b.setCell p v) :=
  ⟨h.os, h.tape, h.output, by simpa [World.setCell] using h.size, fun x hx hn => (Below.heap_setCell b p v x (by
    rintro rfl
    rcases hp with hp | hp
    · exact hn hp
    · omega)).trans (h.block x hx hn), fun b h => h.elim⟩
theorem wr_set (w : World) (b j : Nat) (v : Value) : Wr (fun x => x = b) w (w.setCell ⟨b, j, none⟩ v) := Wr.setCell (X := fun x => x = b) (Wr.refl _ _) (p := ⟨b, j, none⟩) (.inl rfl) v
theorem Wr.put {X : Foot} {a c : World} (h : Wr X a c) {b : Nat} (hb : X b ∨ a.heap.size ≤ b) (j : Nat) (v : Value) : Wr X a (c.setCell ⟨b, j, none⟩ v) := h.setCell (p := ⟨b, j, none⟩) hb v
theorem Wr.alloc {X : Foot} {a b : World} (h : Wr X a b) (o : Obj) : Wr X a (b.alloc o) :=
  ⟨h.os, h.tape, h.output, by simpa using Nat.le_succ_of_le h.size, fun x hx hn => (Below.heap_alloc b o x (Nat.lt_of_lt_of_le hx h.size)).trans (h.block x hx hn), fun b h => h.elim⟩
theorem Wr.grown {X : Foot} {a b c : World} {row : Option Nat} (h : Wr X a b) (hg : b.grownBy c row) (hr : ∀ k, row = some k → X k ∨ a.heap.size ≤ k) : Wr X a c :=
  ⟨hg.os.trans h.os, hg.tape.trans h.tape, hg.output.trans h.output, Nat.le_trans h.size hg.size, fun x hx hn => (hg.block x (Nat.lt_of_lt_of_le hx h.size) (by
    intro e
    rcases hr x e.symm with h | h
    · exact hn h
    · omega)).trans (h.block x hx hn), fun b h => h.elim⟩
theorem Wr.below {X : Foot} {a b c : World} (h : Wr X a b) (hb : Below b.heap.size b c) : Wr X a c := h.trans (Wr.of hb)
theorem Wr.step {X F F' : Foot} {w w' : World} (h : Wr X w w') (hX : ∀ b, X b → F b) (hF : ∀ b, F' b → F b ∨ w.heap.size ≤ b) : Step F F' w w' :=
  ⟨h.os, h.tape, h.output, h.size, fun b hb hn => h.block b hb (fun hx => hn (hX b hx)), hF⟩
theorem Wr.row {X : Foot} {w w' : World} (h : Wr X w w') {b : Nat} {cs : Array Value} {t : TypeId} (r : RowAt w b cs t) (hn : ¬ X b) : RowAt w' b cs t := (h.block b r.lt hn).trans r
theorem Wr.own {X : Foot} {w w' : World} (h : Wr X w w') {base : Nat} {e : TypeId} {size n : Nat} {v : Value} {xs : List Value} (r : w.ownsRow base e size v n xs) (hn : ∀ g, v.ownBlock = some g → ¬ X g) : w'.ownsRow base e size v n xs := by
  refine ⟨r.1, ?_⟩
  rcases r.2 with h1 | ⟨g, cap, cur, rfl, hb, hg, rest⟩
  · exact .inl h1
  · exact .inr ⟨g, cap, cur, rfl, hb, (h.block g (Array.getElem?_eq_some_iff.1 hg).1 (hn g rfl)).trans hg, rest⟩
/-- The blob's bytes lie in a block of F of bytes. -/
def BlobIn (F : Foot) (w : World) (v : Value) (B : List Int) : Prop :=
  BytsAt w v B ∧ (0 < B.length → ∃ g off n c cur f, v = .slice (some ⟨g, off, none⟩) n c ∧ F g ∧ w.heap[g]? = some (Obj.cells cur 5 f))
theorem BlobIn.turn {F F' : Foot} {w w' : World} {v : Value} {B : List Int} (h : BlobIn F w v B) (hk : ∀ g cur f, F g → w.heap[g]? = some (Obj.cells cur 5 f) → w'.heap[g]? = w.heap[g]?) (hF : ∀ g cur f, F g → w.heap[g]? = some (Obj.cells cur 5 f) → F' g) : BlobIn F' w' v B := by
  obtain ⟨hB, hT⟩ := h
  rcases Nat.eq_zero_or_pos B.length with h0 | h0
  · obtain rfl := List.length_eq_zero_iff.1 h0
    refine ⟨.inl ⟨?_, rfl⟩, fun h => absurd h (by simp)⟩
    rcases hB with ⟨h, _⟩ | ⟨g, off, cap, e, _⟩
    · exact h
    · exact ⟨_, _, e⟩
  · obtain ⟨g, off, n, c, cur, f, rfl, hg, ht⟩ := hT h0
    have e := hk g cur f hg ht
    have ht' := e.trans ht
    refine ⟨?_, fun _ => ⟨g, off, n, c, cur, f, rfl, hF g cur f hg ht, ht'⟩⟩
    rcases hB with ⟨_, rfl⟩ | ⟨g', off', cap, e', hc, hlt, hx⟩
    · simp at h0
    · simp only [Value.slice.injEq, Option.some.injEq, Addr.mk.injEq] at e'
      obtain ⟨⟨rfl, rfl, _⟩, rfl, rfl⟩ := e'
      exact .inr ⟨g, off, c, rfl, hc, (Array.getElem?_eq_some_iff.1 ht').1, fun j hj => (World.cell?_of_block (a := ⟨g, off + j, none⟩) e).trans (hx j hj)⟩
theorem BlobIn.wr {F F' X : Foot} {w w' : World} {v : Value} {B : List Int} (h : BlobIn F w v B) (hw : Wr X w w') (hx : ∀ x c f, X x → w.heap[x]? ≠ some (Obj.cells c 5 f)) (hF : ∀ x, F x → F' x) : BlobIn F' w' v B :=
  h.turn (fun g cur f _ ht => hw.block g (Array.getElem?_eq_some_iff.1 ht).1 (fun hX => hx g cur f hX ht)) (fun g _ _ hg _ => hF g hg)
theorem BlobIn.more {F F' : Foot} {w : World} {v : Value} {B : List Int} (h : BlobIn F w v B) (hF : ∀ x, F x → F' x) : BlobIn F' w v B := h.turn (fun _ _ _ _ _ => rfl) (fun g _ _ hg _ => hF g hg)
theorem BlobIn.owned {F : Foot} {w : World} {base : Nat} {v : Value} {B : List Int} (h : w.ownsRow base 5 1 v B.length (bytVs B)) (hF : ∀ g, v.ownBlock = some g → F g) : BlobIn F w v B := by
  refine ⟨byts_of_owned h, fun h0 => ?_⟩
  rcases h.2 with ⟨_, hn⟩ | ⟨g, cap, cur, rfl, hb, hg, _⟩
  · omega
  · exact ⟨g, 0, _, _, cur, _, rfl, hF g rfl, hg⟩
instance good_blob (F : Foot) (w : World) : GoodR (BlobIn F w) where
  form h := GoodR.form h.1
  cut {v B k} h hk := by
    refine ⟨GoodR.cut h.1 hk, fun h0 => ?_⟩
    obtain ⟨g, off, n, c, cur, f, rfl, hg, ht⟩ := h.2 (by simp at h0; omega)
    exact ⟨g, off, _, c, cur, f, rfl, hg, ht⟩
  nil := ⟨BytsAt.nil, fun h => absurd h (by simp)⟩
theorem BlobIn.sl {F : Foot} {w : World} {v : Value} {B : List Int} (h : BlobIn F w v B) : isSl v := by
  obtain ⟨p, c, rfl⟩ := h.1.shape
  exact ⟨_, _, _, rfl⟩
/-- The disk's own row, its maps, what is under way, and the blobs. -/
structure LD (w : World) (F : Foot) (b bl bs : Nat) (vw : Value) (RL RS RW : List Raw) (d : St) : Prop where
  row : RowAt w b #[.int .i64 d.room, .map (some bl), .int .i64 (sumB d.all), .map (some bs), vw, .bool (decide (0 < d.wait)), .int .i64 d.fails] 89
  ml : MapAt w bl RL
  ms : MapAt w bs RS
  way : w.ownsRow 0 91 2 vw RW.length (rawVs RW)
  rl : RelG (BlobIn F w) RL d.all
  rs : RelG (BlobIn F w) RS d.safe
  ru : RelG (BlobIn F w) RW d.under
  fb : F b
  fl : F bl
  fs : F bs
  fw : ∀ g, vw.ownBlock = some g → F g
  ne : bl ≠ bs
  lt : ∀ x, F x → x < w.heap.size
  ty : ∀ x c t f, F x → w.heap[x]? = some (.cells c t f) → ¬ calmT t
def DiskAt (w : World) (F : Foot) (p : Value) (d : St) : Prop := ∃ b bl bs vw RL RS RW, p = .pointer (some ⟨b, 0, none⟩) ∧ LD w F b bl bs vw RL RS RW d
theorem notcalm {t : TypeId} (h : t = 89 ∨ t = 91 ∨ t = 5) : ¬ calmT t := by
  rcases h with rfl | rfl | rfl <;> (unfold calmT; decide)
section
variable {w : World} {F : Foot} {b bl bs : Nat} {vw : Value} {RL RS RW : List Raw} {d : St}
theorem LD.wayT (h : LD w F b bl bs vw RL RS RW d) {g : Nat} (hg : vw.ownBlock = some g) : ∃ cur, w.heap[g]? = some (Obj.cells cur 91 (0, 0)) := by
  rcases h.way.2 with ⟨rfl, _⟩ | ⟨g', cap, cur, rfl, _, ht, _⟩
  · cases hg
  · cases hg; exact ⟨cur, ht⟩
/-- None of its own blocks holds bytes. -/
theorem LD.off (h : LD w F b bl bs vw RL RS RW d) : ∀ x c f, (x = b ∨ x = bl ∨ x = bs ∨ vw.ownBlock = some x) → w.heap[x]? ≠ some (Obj.cells c 5 f) := by
  rintro x c f (rfl | rfl | rfl | hx) e
  · have r := h.row
    unfold RowAt at r
    rw [e] at r
    cases r
  · exact h.ml.nocells e
  · exact h.ms.nocells e
  · obtain ⟨cur, ht⟩ := h.wayT hx
    rw [e] at ht
    cases ht
theorem LD.nb (h : LD w F b bl bs vw RL RS RW d) : bl ≠ b ∧ bs ≠ b ∧ vw.ownBlock ≠ some b ∧ vw.ownBlock ≠ some bl ∧ vw.ownBlock ≠ some bs := by
  refine ⟨?_, ?_, ?_, ?_, ?_⟩
  · rintro rfl; exact h.ml.nocells h.row
  · rintro rfl; exact h.ms.nocells h.row
  · intro e
    obtain ⟨cur, ht⟩ := h.wayT e
    have r := h.row
    unfold RowAt at r
    rw [ht] at r
    cases r
  · intro e
    obtain ⟨cur, ht⟩ := h.wayT e
    exact h.ml.nocells ht
  · intro e
    obtain ⟨cur, ht⟩ := h.wayT e
    exact h.ms.nocells ht
/-- What it is in another world that has its blocks. -/
theorem LD.same {w' : World} (h : LD w F b bl bs vw RL RS RW d) (e : ∀ x, F x → w'.heap[x]? = w.heap[x]?) : LD w' F b bl bs vw RL RS RW d := by
  have hB : ∀ {v : Value} {B : List Int}, BlobIn F w v B → BlobIn F w' v B := fun hb => hb.turn (fun g _ _ hg _ => e g hg) (fun g _ _ hg _ => hg)
  refine ⟨(e b h.fb).trans h.row, h.ml.same (e bl h.fl), h.ms.same (e bs h.fs), ⟨h.way.1, ?_⟩, h.rl.map hB, h.rs.map hB, h.ru.map hB, h.fb, h.fl, h.fs, h.fw, h.ne, fun x hx => ?_, fun x c t f hx ht => h.ty x c t f hx ((e x hx).symm.trans ht)⟩
  · rcases h.way.2 with h1 | ⟨g, cap, cur, rfl, hb, hg, rest⟩
    · exact .inl h1
    · exact .inr ⟨g, cap, cur, rfl, hb, (e g (h.fw g rfl)).trans hg, rest⟩
  · have h1 := e x hx
    have h2 := h.lt x hx
    rw [Array.getElem?_eq_getElem h2] at h1
    exact (Array.getElem?_eq_some_iff.1 h1).1
end
set_option maxRecDepth 10000 in
set_option maxHeartbeats 1000000 in
theorem b8_failing (w : World) (b : Nat) (c0 c1 c2 c3 c4 : Value) (fails wait : Int) (hf : 0 ≤ fails ∧ fails ≤ 9223372036854775807) (r : RowAt w b #[c0, c1, c2, c3, c4, .bool (decide (0 < wait)), .int .i64 fails] 89) :
    Calls Try.prog 60 #[.pointer (some ⟨b, 0, none⟩)] w fun e w' => e = .returned (.bool (askF fails wait).2) ∧
      RowAt w' b #[c0, c1, c2, c3, c4, .bool (decide (0 < (askF fails wait).1.2)), .int .i64 (askF fails wait).1.1] 89 ∧ Wr (fun x => x = b) w w' := by
  obtain ⟨f0, f1⟩ := hf
  have R := Lib.hid r
  have zb := r.lt
  have e5 : w.cell? ⟨b, 5, none⟩ = some (.bool (decide (0 < wait))) := by rw [r.cell]; rfl
  have e6 : w.cell? ⟨b, 6, none⟩ = some (.int .i64 fails) := by rw [r.cell]; rfl
  have z5 := r.frozen 5
  have z6 := r.frozen 6
  clear r
  unfold askF
  by_cases h1 : 0 < wait
  · have g1 : decide (0 < wait) = true := by simpa using h1
    rw [if_pos h1]
    rw [g1] at e5
    clear g1 h1
    go_enter Try.func60, Try.ntmps60
    go_wp2
    go_ret
    exact ⟨rfl, R.out.set 5 _, wr_set _ _ _ _⟩
  · have g1 : decide (0 < wait) = false := by simpa using h1
    rw [if_neg h1]
    rw [g1] at e5
    by_cases h2 : 0 < fails
    · have g2 : decide (fails = 0) = false := by simp; omega
      have g4 : (fails == 0) = false := by simp; omega
      have g3 : IntKind.i64.wrap (fails - 1) = fails - 1 := IntWalk.i64_in _ (by omega)
      rw [if_pos h2]
      have G1 := Lib.hid g1
      clear g1 h1 h2
      go_enter Try.func60, Try.ntmps60
      go_wp2
      go_ret
      refine ⟨rfl, ?_, wr_set _ _ _ _⟩
      have := R.out.set 6 (.int .i64 (fails - 1))
      exact this
    · obtain rfl : fails = 0 := by omega
      rw [if_neg h2]
      clear h1 h2
      go_enter Try.func60, Try.ntmps60
      go_wp2
      go_ret
      exact ⟨rfl, R.out, Wr.refl _ _⟩
end Go.Proofs.Ythjekbbldejlpaa
/- Contracts of layer 9's reference (store): Of, Load. -/
set_option linter.unusedVariables false
set_option linter.unusedSimpArgs false
namespace Go.Proofs.Ythjekbbldejlpaa
open Go.ChangeShapes Go.WideShapes Go.ChangeAt Go.RowKit
theorem of9_eq (d : St) (k : Int) : of9 d k = ofP k (getSt d (2 * k)).1 (getSt d (2 * k + 1)).1 := rfl
theorem gb_ok {d : St} {n m : Nat} (ok : StOk d n m) (q : Int) : bytOk (gb d.all q) ∧ (gb d.all q).length ≤ m := by
  unfold gb
  cases h : getF d.all q with
  | none => exact ⟨by simp [bytOk], by simp⟩
  | some B =>
    have hm := getF_in h
    refine ⟨(ok.allmem _ hm).2, ?_⟩
    have h1 := nowF_sum d.under d.safe
    have h2 := ok.sum
    have h3 : ∀ {l : Blobs}, (q, B) ∈ l → B.length ≤ sumB l := fun {l} hl => by
      induction l with
      | nil => cases hl
      | cons x l ih =>
        rw [sumB]
        rcases List.mem_cons.1 hl with rfl | hl
        · simp only []; omega
        · have := ih hl; omega
    have h4 := h3 hm
    unfold St.all at h4
    simp only [Option.getD_some]
    omega
set_option maxRecDepth 10000 in
set_option maxHeartbeats 8000000 in
theorem r9_of (v : Value) (d : St) (k : Int) (R : Value → List Int → Prop) [GoodR R] (w : World) (hR : ∀ {x : Value} {B : List Int}, R x B → BytsAt w x B) {n m : Nat} (hd : DAtR R w v d) (ok : StOk d n m) (hn : n ≤ 40000) (hm : m ≤ 100000) (hk : 0 ≤ k ∧ k ≤ 2199023255552) :
    Calls Try.prog 56 #[v, .int .i64 k] w fun e w' => ∃ vb, e = .returned (.tuple #[.int .i64 (of9 d k).1, .int .i64 (of9 d k).2.1, vb]) ∧ BytsAt w' vb (of9 d k).2.2 ∧ Below w.heap.size w w' := by
  obtain ⟨k0, k1⟩ := hk
  obtain ⟨ps, ns, cs, pl, nl, cl, hv⟩ := hd.form
  subst hv
  have ga := fun u (hu : Below w.heap.size w u) => rG_get _ d (2 * k) R u (hd.keep hu) ok hn
  have gc := fun u (hu : Below w.heap.size w u) => rG_get _ d (2 * k + 1) R u (hd.keep hu) ok hn
  obtain ⟨okA, lnA⟩ := gb_ok ok (2 * k)
  obtain ⟨okB, lnB⟩ := gb_ok ok (2 * k + 1)
  rw [of9_eq]
  change bytOk (getSt d (2 * k)).1 at okA
  change (getSt d (2 * k)).1.length ≤ m at lnA
  change bytOk (getSt d (2 * k + 1)).1 at okB
  change (getSt d (2 * k + 1)).1.length ≤ m at lnB
  generalize (getSt d (2 * k)).1 = a at *
  generalize (getSt d (2 * k + 1)).1 = b at *
  generalize (getSt d (2 * k)).2 = ia at *
  generalize (getSt d (2 * k + 1)).2 = ib at *
  have ra := fun u x (hx : BytsAt u x a) => r9_read x a u hx okA (by omega)
  have rc := fun u x (hx : BytsAt u x b) => r9_read x b u hx okB (by omega)
  have hof : ofP k a b = if ¬ readE a = 0 ∧ ¬ readE b = 0 then (2 * k + 1, 0, []) else if ¬ readE b = 0 ∨ (readE a = 0 ∧ readV b ≤ readV a) then (2 * k, readV a, readB a) else (2 * k + 1, readV b, readB b) := rfl
  rw [hof]
  generalize readE a = ea at *
  generalize readE b = eb at *
  generalize readV a = va at *
  generalize readV b = vb at *
  generalize readB a = xa at *
  generalize readB b = xb at *
  generalize hPR : (if ¬ ea = 0 ∧ ¬ eb = 0 then (2 * k + 1, (0 : Int), ([] : List Int)) else if ¬ eb = 0 ∨ (ea = 0 ∧ vb ≤ va) then (2 * k, va, xa) else (2 * k + 1, vb, xb)) = PR
  have HPR := Lib.hid hPR
  clear hPR
  have GA := Lib.hid ga
  have GC := Lib.hid gc
  have RA := Lib.hid ra
  have RC := Lib.hid rc
  have HRR := Lib.hid (fun (x : Value) (B : List Int) (h : R x B) => hR h)
  have w2 : IntKind.i64.wrap (2 * k) = 2 * k := IntWalk.i64_in _ (by omega)
  have w3 : IntKind.i64.wrap (2 * k + 1) = 2 * k + 1 := IntWalk.i64_in _ (by omega)
  clear ga gc ra rc hR hof hd ok okA okB lnA lnB k0 k1
  go_enter Try.func56, Try.ntmps56
  go_upto_region 1 with (fail)
  obtain ⟨u0, hu⟩ : ∃ u, w.alloc (.cells #[.int .i64 d.room, .int .i64 d.fails, .int .i64 d.wait, .slice ps ns cs, .slice pl nl cl] 39) = u := ⟨_, rfl⟩
  rw [hu]
  have k00 : Below w.heap.size w u0 := by rw [← hu]; exact al (Below.refl _ _) _
  have rb0 : RowAt u0 w.heap.size #[.int .i64 d.room, .int .i64 d.fails, .int .i64 d.wait, .slice ps ns cs, .slice pl nl cl] 39 := by rw [← hu]; exact RowAt.new w _ _
  have c0 := rb0.cell
  have z0 := rb0.lt
  clear hu
  go_wp2_with fail
  (refine (GA.out _ k00).mono ?_; rintro e w1 ⟨x1, rfl, hx1, hb1⟩)
  have k1 := chain k00 hb1
  have HX1 := Lib.hid (HRR.out _ _ hx1)
  have rb1 := rb0.keep hb1
  clear hx1 hb1 c0 z0 k00 rb0
  have c0 := rb1.cell
  have z0 := rb1.lt
  go_wp2_with fail
  (refine (GC.out _ k1).mono ?_; rintro e w2 ⟨x2, rfl, hx2, hb2⟩)
  have k2 := chain k1 hb2
  have HX2 := Lib.hid (HRR.out _ _ hx2)
  clear hx2 hb2 c0 z0 rb1 k1
  go_wp2_with fail
  (refine (RA.out _ _ (HX1.out.keep k2)).mono ?_; rintro e w3 ⟨y1, rfl, hy1, hb3⟩)
  have k3 := chain k2 hb3
  have HY1 := Lib.hid hy1
  clear hy1 hb3
  go_wp2_with fail
  (refine (RC.out _ _ (HX2.out.keep k3)).mono ?_; rintro e w4 ⟨y2, rfl, hy2, hb4⟩)
  have HY2 := Lib.hid hy2
  have HY1' := Lib.hid (HY1.out.keep hb4)
  have K4 := Lib.hid (chain k3 hb4)
  obtain ⟨py1, cy1, hs1⟩ := hy2.shape
  obtain ⟨py2, cy2, hs2⟩ := HY1.out.shape
  have HS1 := Lib.hid hs1
  have HS2 := Lib.hid hs2
  clear hy2 hb4 k3 k2 hs1 hs2
  by_cases ca : ea = 0 <;> by_cases cb : eb = 0
  · subst ca
    subst cb
    by_cases cv : vb ≤ va
    · have g1 : decide (vb ≤ va) = true := by simpa using cv
      have g2 : decide (va ≥ vb) = true := g1
      have e := HPR.out
      rw [if_neg (by simp), if_pos (.inr ⟨rfl, cv⟩)] at e
      have EP := Lib.hid e
      clear e cv
      go_wp2
      exact bodyPost_ret (v := .tuple #[.int .i64 (2 * k), .int .i64 va, y1]) (by simp [results, Try.results56, go_sem]) rfl ⟨_, by rw [← EP.out], by rw [← EP.out]; exact HY1'.out, K4.out⟩
    · have g1 : decide (vb ≤ va) = false := by simpa using cv
      have g2 : decide (va ≥ vb) = false := g1
      have e := HPR.out
      rw [if_neg (by simp), if_neg (by simpa using cv)] at e
      have EP := Lib.hid e
      clear e cv
      go_wp2
      exact bodyPost_ret (v := .tuple #[.int .i64 (2 * k + 1), .int .i64 vb, y2]) (by simp [results, Try.results56, go_sem]) rfl ⟨_, by rw [← EP.out], by rw [← EP.out]; exact HY2.out, K4.out⟩
  · subst ca
    have g1 : (eb != 0) = true := by simpa using cb
    have g2 : (eb == 0) = false := by simpa using cb
    have e := HPR.out
    rw [if_neg (by simp), if_pos (.inl cb)] at e
    have EP := Lib.hid e
    clear e cb
    go_wp2
    exact bodyPost_ret (v := .tuple #[.int .i64 (2 * k), .int .i64 va, y1]) (by simp [results, Try.results56, go_sem]) rfl ⟨_, by rw [← EP.out], by rw [← EP.out]; exact HY1'.out, K4.out⟩
  · subst cb
    have g1 : (ea != 0) = true := by simpa using ca
    have g2 : (ea == 0) = false := by simpa using ca
    have e := HPR.out
    rw [if_neg (by simp), if_neg (by simp [ca])] at e
    have EP := Lib.hid e
    clear e ca
    go_wp2
    exact bodyPost_ret (v := .tuple #[.int .i64 (2 * k + 1), .int .i64 vb, y2]) (by simp [results, Try.results56, go_sem]) rfl ⟨_, by rw [← EP.out], by rw [← EP.out]; exact HY2.out, K4.out⟩
  · have g1 : (ea != 0) = true := by simpa using ca
    have g2 : (ea == 0) = false := by simpa using ca
    have g3 : (eb != 0) = true := by simpa using cb
    have g4 : (eb == 0) = false := by simpa using cb
    have e := HPR.out
    rw [if_pos ⟨ca, cb⟩] at e
    have EP := Lib.hid e
    clear e ca cb
    go_wp2
    exact bodyPost_ret (v := .tuple #[.int .i64 (2 * k + 1), .int .i64 0, .slice none 0 0]) (by simp [results, Try.results56, go_sem]) rfl ⟨_, by rw [← EP.out], by rw [← EP.out]; exact BytsAt.nil, K4.out⟩
end Go.Proofs.Ythjekbbldejlpaa
/- Contracts of layer 9's reference (store): Load. -/
set_option linter.unusedVariables false
set_option linter.unusedSimpArgs false
namespace Go.Proofs.Ythjekbbldejlpaa
open Go.ChangeShapes Go.WideShapes Go.ChangeAt Go.RowKit
theorem BlobIn.below {G : Foot} {w w' : World} {v : Value} {B : List Int} (h : BlobIn G w v B) (hb : Below w.heap.size w w') : BlobIn G w' v B :=
  h.turn (fun g cur f _ ht => hb.block g (Array.getElem?_eq_some_iff.1 ht).1) (fun g _ _ h _ => h)
theorem idB_yes {k : Int} (h0 : 0 ≤ k) (h1 : k ≤ 1099511627776) : idB k = true := by simp [idB, h0, h1]
theorem idB_no {k : Int} (h : k < 0 ∨ 1099511627776 < k) : idB k = false := by
  unfold idB
  rcases h with h | h
  · rw [decide_eq_false (by omega), Bool.false_and]
  · rw [decide_eq_false (p := k ≤ 1099511627776) (by omega), Bool.and_false]
set_option maxRecDepth 10000 in
set_option maxHeartbeats 8000000 in
theorem r9_load (v : Value) (d : St) (k : Int) (R : Value → List Int → Prop) [GoodR R] (w : World) (hR : ∀ {x : Value} {B : List Int}, R x B → BytsAt w x B) {n m : Nat} (hd : DAtR R w v d) (ok : StOk d n m) (hn : n ≤ 40000) (hm : m ≤ 100000) (hk : i64 k) :
    Calls Try.prog 42 #[v, .int .i64 k] w fun e w' => ∃ vb, e = .returned (.tuple #[vb, .int .i64 (loadF d k).2.1, .bool (loadF d k).2.2]) ∧ BytsAt w' vb (loadF d k).1 ∧ Below w.heap.size w w' := by
  obtain ⟨k0, k1⟩ := hk
  obtain ⟨ps, ns, cs, pl, nl, cl, hv⟩ := hd.form
  subst hv
  by_cases hbad : k < 0 ∨ 1099511627776 < k
  · have e : loadF d k = ([], 0, false) := by unfold loadF; rw [idB_no hbad]; rfl
    rw [e]
    clear hd ok hR e
    by_cases q1 : k < 0
    · have g1 : decide (k < 0) = true := by simpa using q1
      clear q1 hbad k0 k1
      go_enter Try.func42, Try.ntmps42
      go_wp2
      exact bodyPost_ret (v := .tuple #[.slice none 0 0, .int .i64 0, .bool false]) (by simp [results, Try.results42, go_sem]) rfl ⟨_, rfl, BytsAt.nil, by (repeat (first | with_reducible assumption | with_reducible exact Below.refl _ _ | with_reducible refine Below.drew ?_ | with_reducible refine below_drewN ?_ _ | with_reducible refine al ?_ _ | (with_reducible refine sc ?_ ?_; (focus (first | omega | (simp; done) | (simp; omega)))) | (with_reducible refine chain ?_ (by assumption))))⟩
    · have q2 : 1099511627776 < k := by omega
      have g1 : decide (k < 0) = false := by simpa using q1
      have g2 : decide (1099511627776 < k) = true := by simpa using q2
      have g3 : decide (k > 1099511627776) = true := g2
      clear q1 q2 hbad k0 k1
      go_enter Try.func42, Try.ntmps42
      go_wp2
      exact bodyPost_ret (v := .tuple #[.slice none 0 0, .int .i64 0, .bool false]) (by simp [results, Try.results42, go_sem]) rfl ⟨_, rfl, BytsAt.nil, by (repeat (first | with_reducible assumption | with_reducible exact Below.refl _ _ | with_reducible refine Below.drew ?_ | with_reducible refine below_drewN ?_ _ | with_reducible refine al ?_ _ | (with_reducible refine sc ?_ ?_; (focus (first | omega | (simp; done) | (simp; omega)))) | (with_reducible refine chain ?_ (by assumption))))⟩
  · have e : loadF d k = ((of9 d k).2.2, (of9 d k).2.1, decide (0 < (of9 d k).2.1)) := by unfold loadF; rw [idB_yes (by omega) (by omega), if_pos rfl]
    rw [e]
    have ho := fun u (hu : Below w.heap.size w u) => r9_of _ d k R u (fun h => (hR h).keep hu) (hd.keep hu) ok hn hm (by constructor <;> omega)
    generalize of9 d k = o at *
    obtain ⟨os, ov, ob⟩ := o
    have HO := Lib.hid ho
    have g1 : decide (k < 0) = false := by simp; omega
    have g2 : decide (1099511627776 < k) = false := by simp; omega
    have g3 : decide (k > 1099511627776) = false := g2
    have g4 : decide (ov > 0) = decide (0 < ov) := rfl
    clear hd ok hR e ho hbad k0 k1
    go_enter Try.func42, Try.ntmps42
    go_upto_region 3 with (fail)
    obtain ⟨u0, hu⟩ : ∃ u, w.alloc (.cells #[.int .i64 d.room, .int .i64 d.fails, .int .i64 d.wait, .slice ps ns cs, .slice pl nl cl] 39) = u := ⟨_, rfl⟩
    rw [hu]
    have k00 : Below w.heap.size w u0 := by rw [← hu]; exact al (Below.refl _ _) _
    have rb0 : RowAt u0 w.heap.size #[.int .i64 d.room, .int .i64 d.fails, .int .i64 d.wait, .slice ps ns cs, .slice pl nl cl] 39 := by rw [← hu]; exact RowAt.new w _ _
    have c0 := rb0.cell
    have z0 := rb0.lt
    clear hu
    go_wp2_with fail
    (refine (HO.out _ k00).mono ?_; rintro e w1 ⟨x1, rfl, hx1, hb1⟩)
    have HX := Lib.hid hx1
    have K1 := Lib.hid (chain k00 hb1)
    clear hx1 hb1 c0 z0 rb0 k00
    go_wp2
    exact bodyPost_ret (v := .tuple #[x1, .int .i64 ov, .bool (decide (0 < ov))]) (by simp [results, Try.results42, go_sem]) rfl ⟨_, rfl, HX.out, K1.out⟩
end Go.Proofs.Ythjekbbldejlpaa
