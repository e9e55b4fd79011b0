/- The landed disk in memory: words; contracts of its small functions. -/
import Derived.Test.YtkephcmjigfepaaK86
import Derived.Test.YtkephcmjigfepaaB8I
import Derived.Test.YtkephcmjigfepaaShelf
set_option linter.unusedVariables false
set_option linter.unusedSimpArgs false
namespace Go.Proofs.Ytkephcmjigfepaa
open Go.ChangeShapes Go.WideShapes Go.ChangeAt Go.RowKit
/-- What is written outside X is new. -/
abbrev Wr (X : Foot) (w w' : World) : Prop := Step X (fun _ => False) w w'
theorem Wr.of {X : Foot} {w w' : World} (hb : Below w.heap.size w w') : Wr X w w' := ⟨hb.os, hb.tape, hb.output, hb.size, fun b h _ => hb.block b h, fun b h => h.elim⟩
theorem Wr.refl (X : Foot) (w : World) : Wr X w w := Wr.of (Below.refl _ _)
theorem Wr.mono {X Y : Foot} {w w' : World} (h : Wr X w w') (hx : ∀ b, X b → Y b) : Wr Y w w' := ⟨h.os, h.tape, h.output, h.size, fun b hb hn => h.block b hb (fun hX => hn (hx b hX)), fun b h => h.elim⟩
theorem Wr.trans {X : Foot} {a b c : World} (h : Wr X a b) (k : Wr X b c) : Wr X a c :=
  ⟨k.os.trans h.os, k.tape.trans h.tape, k.output.trans h.output, Nat.le_trans h.size k.size, fun x hx hn => (k.block x (Nat.lt_of_lt_of_le hx h.size) hn).trans (h.block x hx hn), fun b h => h.elim⟩
theorem Wr.setCell {X : Foot} {a b : World} (h : Wr X a b) {p : Addr} (hp : X p.block ∨ a.heap.size ≤ p.block) (v : Value) : Wr X a (b.setCell p v) :=
  ⟨h.os, h.tape, h.output, by simpa [World.setCell] using h.size, fun x hx hn => (Below.heap_setCell b p v x (by
    rintro rfl
    rcases hp with hp | hp
    · exact hn hp
    · omega)).trans (h.block x hx hn), fun b h => h.elim⟩
theorem wr_set (w : World) (b j : Nat) (v : Value) : Wr (fun x => x = b) w (w.setCell ⟨b, j, none⟩ v) := Wr.setCell (X := fun x => x = b) (Wr.refl _ _) (p := ⟨b, j, none⟩) (.inl rfl) v
theorem Wr.put {X : Foot} {a c : World} (h : Wr X a c) {b : Nat} (hb : X b ∨ a.heap.size ≤ b) (j : Nat) (v : Value) : Wr X a (c.setCell ⟨b, j, none⟩ v) := h.setCell (p := ⟨b, j, none⟩) hb v
theorem Wr.alloc {X : Foot} {a b : World} (h : Wr X a b) (o : Obj) : Wr X a (b.alloc o) :=
  ⟨h.os, h.tape, h.output, by simpa using Nat.le_succ_of_le h.size, fun x hx hn => (Below.heap_alloc b o x (Nat.lt_of_lt_of_le hx h.size)).trans (h.block x hx hn), fun b h => h.elim⟩
theorem Wr.grown {X : Foot} {a b c : World} {row : Option Nat} (h : Wr X a b) (hg : b.grownBy c row) (hr : ∀ k, row = some k → X k ∨ a.heap.size ≤ k) : Wr X a c :=
  ⟨hg.os.trans h.os, hg.tape.trans h.tape, hg.output.trans h.output, Nat.le_trans h.size hg.size, fun x hx hn => (hg.block x (Nat.lt_of_lt_of_le hx h.size) (by
    intro e
    rcases hr x e.symm with h | h
    · exact hn h
    · omega)).trans (h.block x hx hn), fun b h => h.elim⟩
theorem Wr.below {X : Foot} {a b c : World} (h : Wr X a b) (hb : Below b.heap.size b c) : Wr X a c := h.trans (Wr.of hb)
theorem Wr.step {X F F' : Foot} {w w' : World} (h : Wr X w w') (hX : ∀ b, X b → F b) (hF : ∀ b, F' b → F b ∨ w.heap.size ≤ b) : Step F F' w w' :=
  ⟨h.os, h.tape, h.output, h.size, fun b hb hn => h.block b hb (fun hx => hn (hX b hx)), hF⟩
theorem Wr.row {X : Foot} {w w' : World} (h : Wr X w w') {b : Nat} {cs : Array Value} {t : TypeId} (r : RowAt w b cs t) (hn : ¬ X b) : RowAt w' b cs t := (h.block b r.lt hn).trans r
theorem Wr.own {X : Foot} {w w' : World} (h : Wr X w w') {base : Nat} {e : TypeId} {size n : Nat} {v : Value} {xs : List Value} (r : w.ownsRow base e size v n xs) (hn : ∀ g, v.ownBlock = some g → ¬ X g) : w'.ownsRow base e size v n xs := by
  refine ⟨r.1, ?_⟩
  rcases r.2 with h1 | ⟨g, cap, cur, rfl, hb, hg, rest⟩
  · exact .inl h1
  · exact .inr ⟨g, cap, cur, rfl, hb, (h.block g (Array.getElem?_eq_some_iff.1 hg).1 (hn g rfl)).trans hg, rest⟩
/-- The blob's bytes lie in a block of F of bytes. -/
def BlobIn (F : Foot) (w : World) (v : Value) (B : List Int) : Prop :=
  BytsAt w v B ∧ (0 < B.length → ∃ g off n c cur f, v = .slice (some ⟨g, off, none⟩) n c ∧ F g ∧ w.heap[g]? = some (Obj.cells cur 5 f))
theorem BlobIn.turn {F F' : Foot} {w w' : World} {v : Value} {B : List Int} (h : BlobIn F w v B) (hk : ∀ g cur f, F g → w.heap[g]? = some (Obj.cells cur 5 f) → w'.heap[g]? = w.heap[g]?) (hF : ∀ g cur f, F g → w.heap[g]? = some (Obj.cells cur 5 f) → F' g) : BlobIn F' w' v B := by
  obtain ⟨hB, hT⟩ := h
  rcases Nat.eq_zero_or_pos B.length with h0 | h0
  · obtain rfl := List.length_eq_zero_iff.1 h0
    refine ⟨.inl ⟨?_, rfl⟩, fun h => absurd h (by simp)⟩
    rcases hB with ⟨h, _⟩ | ⟨g, off, cap, e, _⟩
    · exact h
    · exact ⟨_, _, e⟩
  · obtain ⟨g, off, n, c, cur, f, rfl, hg, ht⟩ := hT h0
    have e := hk g cur f hg ht
    have ht' := e.trans ht
    refine ⟨?_, fun _ => ⟨g, off, n, c, cur, f, rfl, hF g cur f hg ht, ht'⟩⟩
    rcases hB with ⟨_, rfl⟩ | ⟨g', off', cap, e', hc, hlt, hx⟩
    · simp at h0
    · simp only [Value.slice.injEq, Option.some.injEq, Addr.mk.injEq] at e'
      obtain ⟨⟨rfl, rfl, _⟩, rfl, rfl⟩ := e'
      exact .inr ⟨g, off, c, rfl, hc, (Array.getElem?_eq_some_iff.1 ht').1, fun j hj => (World.cell?_of_block (a := ⟨g, off + j, none⟩) e).trans (hx j hj)⟩
theorem BlobIn.wr {F F' X : Foot} {w w' : World} {v : Value} {B : List Int} (h : BlobIn F w v B) (hw : Wr X w w') (hx : ∀ x c f, X x → w.heap[x]? ≠ some (Obj.cells c 5 f)) (hF : ∀ x, F x → F' x) : BlobIn F' w' v B :=
  h.turn (fun g cur f _ ht => hw.block g (Array.getElem?_eq_some_iff.1 ht).1 (fun hX => hx g cur f hX ht)) (fun g _ _ hg _ => hF g hg)
theorem BlobIn.more {F F' : Foot} {w : World} {v : Value} {B : List Int} (h : BlobIn F w v B) (hF : ∀ x, F x → F' x) : BlobIn F' w v B := h.turn (fun _ _ _ _ _ => rfl) (fun g _ _ hg _ => hF g hg)
theorem BlobIn.owned {F : Foot} {w : World} {base : Nat} {v : Value} {B : List Int} (h : w.ownsRow base 5 1 v B.length (bytVs B)) (hF : ∀ g, v.ownBlock = some g → F g) : BlobIn F w v B := by
  refine ⟨byts_of_owned h, fun h0 => ?_⟩
  rcases h.2 with ⟨_, hn⟩ | ⟨g, cap, cur, rfl, hb, hg, _⟩
  · omega
  · exact ⟨g, 0, _, _, cur, _, rfl, hF g rfl, hg⟩
instance good_blob (F : Foot) (w : World) : GoodR (BlobIn F w) where
  form h := GoodR.form h.1
  cut {v B k} h hk := by
    refine ⟨GoodR.cut h.1 hk, fun h0 => ?_⟩
    obtain ⟨g, off, n, c, cur, f, rfl, hg, ht⟩ := h.2 (by simp at h0; omega)
    exact ⟨g, off, _, c, cur, f, rfl, hg, ht⟩
  nil := ⟨BytsAt.nil, fun h => absurd h (by simp)⟩
theorem BlobIn.sl {F : Foot} {w : World} {v : Value} {B : List Int} (h : BlobIn F w v B) : isSl v := by
  obtain ⟨p, c, rfl⟩ := h.1.shape
  exact ⟨_, _, _, rfl⟩
/-- The disk's own row, its maps, what is under way, and the blobs. -/
structure LD (w : World) (F : Foot) (b bl bs : Nat) (vw : Value) (RL RS RW : List Raw) (d : St) : Prop where
  row : RowAt w b #[.int .i64 d.room, .map (some bl), .int .i64 (sumB d.all), .map (some bs), vw, .bool (decide (0 < d.wait)), .int .i64 d.fails] 57
  ml : MapAt w bl RL
  ms : MapAt w bs RS
  way : w.ownsRow 0 73 2 vw RW.length (rawVs RW)
  rl : RelG (BlobIn F w) RL d.all
  rs : RelG (BlobIn F w) RS d.safe
  ru : RelG (BlobIn F w) RW d.under
  fb : F b
  fl : F bl
  fs : F bs
  fw : ∀ g, vw.ownBlock = some g → F g
  ne : bl ≠ bs
  lt : ∀ x, F x → x < w.heap.size
  ty : ∀ x c t f, F x → w.heap[x]? = some (.cells c t f) → ¬ calmT t
def DiskAt (w : World) (F : Foot) (p : Value) (d : St) : Prop := ∃ b bl bs vw RL RS RW, p = .pointer (some ⟨b, 0, none⟩) ∧ LD w F b bl bs vw RL RS RW d
theorem notcalm {t : TypeId} (h : t = 57 ∨ t = 73 ∨ t = 5) : ¬ calmT t := by
  rcases h with rfl | rfl | rfl <;> (unfold calmT; decide)
section
variable {w : World} {F : Foot} {b bl bs : Nat} {vw : Value} {RL RS RW : List Raw} {d : St}
theorem LD.wayT (h : LD w F b bl bs vw RL RS RW d) {g : Nat} (hg : vw.ownBlock = some g) : ∃ cur, w.heap[g]? = some (Obj.cells cur 73 (0, 0)) := by
  rcases h.way.2 with ⟨rfl, _⟩ | ⟨g', cap, cur, rfl, _, ht, _⟩
  · cases hg
  · cases hg; exact ⟨cur, ht⟩
/-- None of its own blocks holds bytes. -/
theorem LD.off (h : LD w F b bl bs vw RL RS RW d) : ∀ x c f, (x = b ∨ x = bl ∨ x = bs ∨ vw.ownBlock = some x) → w.heap[x]? ≠ some (Obj.cells c 5 f) := by
  rintro x c f (rfl | rfl | rfl | hx) e
  · have r := h.row
    unfold RowAt at r
    rw [e] at r
    cases r
  · exact h.ml.nocells e
  · exact h.ms.nocells e
  · obtain ⟨cur, ht⟩ := h.wayT hx
    rw [e] at ht
    cases ht
theorem LD.nb (h : LD w F b bl bs vw RL RS RW d) : bl ≠ b ∧ bs ≠ b ∧ vw.ownBlock ≠ some b ∧ vw.ownBlock ≠ some bl ∧ vw.ownBlock ≠ some bs := by
  refine ⟨?_, ?_, ?_, ?_, ?_⟩
  · rintro rfl; exact h.ml.nocells h.row
  · rintro rfl; exact h.ms.nocells h.row
  · intro e
    obtain ⟨cur, ht⟩ := h.wayT e
    have r := h.row
    unfold RowAt at r
    rw [ht] at r
    cases r
  · intro e
    obtain ⟨cur, ht⟩ := h.wayT e
    exact h.ml.nocells ht
  · intro e
    obtain ⟨cur, ht⟩ := h.wayT e
    exact h.ms.nocells ht
/-- What it is in another world that has its blocks. -/
theorem LD.same {w' : World} (h : LD w F b bl bs vw RL RS RW d) (e : ∀ x, F x → w'.heap[x]? = w.heap[x]?) : LD w' F b bl bs vw RL RS RW d := by
  have hB : ∀ {v : Value} {B : List Int}, BlobIn F w v B → BlobIn F w' v B := fun hb => hb.turn (fun g _ _ hg _ => e g hg) (fun g _ _ hg _ => hg)
  refine ⟨(e b h.fb).trans h.row, h.ml.same (e bl h.fl), h.ms.same (e bs h.fs), ⟨h.way.1, ?_⟩, h.rl.map hB, h.rs.map hB, h.ru.map hB, h.fb, h.fl, h.fs, h.fw, h.ne, fun x hx => ?_, fun x c t f hx ht => h.ty x c t f hx ((e x hx).symm.trans ht)⟩
  · rcases h.way.2 with h1 | ⟨g, cap, cur, rfl, hb, hg, rest⟩
    · exact .inl h1
    · exact .inr ⟨g, cap, cur, rfl, hb, (e g (h.fw g rfl)).trans hg, rest⟩
  · have h1 := e x hx
    have h2 := h.lt x hx
    rw [Array.getElem?_eq_getElem h2] at h1
    exact (Array.getElem?_eq_some_iff.1 h1).1
end
set_option maxHeartbeats 1000000 in
theorem b8_failing (w : World) (b : Nat) (c0 c1 c2 c3 c4 : Value) (fails wait : Int) (hf : 0 ≤ fails ∧ fails ≤ 9223372036854775807) (r : RowAt w b #[c0, c1, c2, c3, c4, .bool (decide (0 < wait)), .int .i64 fails] 57) :
    Calls Try.prog 33 #[.pointer (some ⟨b, 0, none⟩)] w fun e w' => e = .returned (.bool (askF fails wait).2) ∧
      RowAt w' b #[c0, c1, c2, c3, c4, .bool (decide (0 < (askF fails wait).1.2)), .int .i64 (askF fails wait).1.1] 57 ∧ Wr (fun x => x = b) w w' := by
  obtain ⟨f0, f1⟩ := hf
  have R := Lib.hid r
  have zb := r.lt
  have e5 : w.cell? ⟨b, 5, none⟩ = some (.bool (decide (0 < wait))) := by rw [r.cell]; rfl
  have e6 : w.cell? ⟨b, 6, none⟩ = some (.int .i64 fails) := by rw [r.cell]; rfl
  have z5 := r.frozen 5
  have z6 := r.frozen 6
  clear r
  unfold askF
  by_cases h1 : 0 < wait
  · have g1 : decide (0 < wait) = true := by simpa using h1
    rw [if_pos h1]
    rw [g1] at e5
    clear g1 h1
    go_enter Try.func33, Try.ntmps33
    go_wp2
    go_ret
    exact ⟨rfl, R.out.set 5 _, wr_set _ _ _ _⟩
  · have g1 : decide (0 < wait) = false := by simpa using h1
    rw [if_neg h1]
    rw [g1] at e5
    by_cases h2 : 0 < fails
    · have g2 : decide (fails = 0) = false := by simp; omega
      have g4 : (fails == 0) = false := by simp; omega
      have g3 : IntKind.i64.wrap (fails - 1) = fails - 1 := IntWalk.i64_in _ (by omega)
      rw [if_pos h2]
      have G1 := Lib.hid g1
      clear g1 h1 h2
      go_enter Try.func33, Try.ntmps33
      go_wp2
      go_ret
      refine ⟨rfl, ?_, wr_set _ _ _ _⟩
      have := R.out.set 6 (.int .i64 (fails - 1))
      exact this
    · obtain rfl : fails = 0 := by omega
      rw [if_neg h2]
      clear h1 h2
      go_enter Try.func33, Try.ntmps33
      go_wp2
      go_ret
      exact ⟨rfl, R.out, Wr.refl _ _⟩
end Go.Proofs.Ytkephcmjigfepaa
