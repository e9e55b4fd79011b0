/- What the laws of layer 8 ask of the landed disk: contracts over a footprint (the blocks that it is made of), a structure: to be filled for the landed code (diskI). -/
import Derived.Test.YtkephcmjigfepaaR87
import Derived.Test.YtkephcmjigfepaaR04
set_option linter.unusedVariables false
set_option linter.unusedSimpArgs false
namespace Go.Proofs.Ytkephcmjigfepaa
open Go Go.RowKit
abbrev Foot := Nat → Prop
/-- What a deed on a disk of footprint F leaves: all other blocks as they were; F' is of F's blocks, and new ones. -/
structure Step (F F' : Foot) (w w' : World) : Prop where
  os : w'.os = w.os
  tape : w'.tape = w.tape
  output : w'.output = w.output
  size : w.heap.size ≤ w'.heap.size
  block : ∀ b, b < w.heap.size → ¬ F b → w'.heap[b]? = w.heap[b]?
  fresh : ∀ b, F' b → F b ∨ w.heap.size ≤ b
/-- Types of rows that no disk writes. -/
def calmT (t : TypeId) : Prop := t = 70 ∨ t = 28
  ∨ t = 34
structure DiskI where
  At : World → Foot → Value → St → Prop
  lt : ∀ {w F p d}, At w F p d → ∀ b, F b → b < w.heap.size
  ptr : ∀ {w F p d}, At w F p d → ∃ a, p = .pointer (some a)
  same : ∀ {w w' F p d}, At w F p d → (∀ b, F b → w'.heap[b]? = w.heap[b]?) → At w' F p d
  types : ∀ {w F p d}, At w F p d → ∀ b c t f, F b → w.heap[b]? = some (.cells c t f) → ¬ calmT t
  new : ∀ (room : Int) (w : World), i64 room → Calls Try.prog 10 #[.int .i64 room] w fun e w' => ∃ p F, e = .returned p ∧ At w' F p (newSt room) ∧ (∀ b, F b → w.heap.size ≤ b) ∧ Below w.heap.size w w'
  put : ∀ (w : World) (F : Foot) (p : Value) (d : St) (k : Int) (vb : Value) (B : List Int) (n m : Nat), At w F p d → StOk d n m → n ≤ 30000 → m ≤ 50000000 → i64 k → BytsAt w vb B → bytOk B → B.length ≤ 1000000 →
    Calls Try.prog 17 #[p, .int .i64 k, vb] w fun e w' => ∃ F', e = .returned (.int .i64 (putSt d k B).2) ∧ At w' F' p (putSt d k B).1 ∧ Step F F' w w'
  sync : ∀ (w : World) (F : Foot) (p : Value) (d : St) (n m : Nat), At w F p d → StOk d n m → n ≤ 30000 → m ≤ 50000000 →
    Calls Try.prog 18 #[p] w fun e w' => ∃ F', e = .returned (.int .i64 (syncSt d).2) ∧ At w' F' p (syncSt d).1 ∧ Step F F' w w'
  fail : ∀ (w : World) (F : Foot) (p : Value) (d : St) (k : Int), At w F p d → i64 k →
    Calls Try.prog 16 #[p, .int .i64 k] w fun e w' => ∃ F' v, e = .returned v ∧ At w' F' p (failSt d k) ∧ Step F F' w w'
  crash : ∀ (w : World) (F : Foot) (p : Value) (d : St) (k : Int) (n m : Nat), At w F p d → StOk d n m → n ≤ 30000 → m ≤ 50000000 → i64 k →
    Calls Try.prog 20 #[p, .int .i64 k] w fun e w' => ∃ F', e = .returned (.int .i64 (crashSt d k).2) ∧ At w' F' p (crashSt d k).1 ∧ Step F F' w w'
  getO : ∀ (w : World) (F : Foot) (p : Value) (d : St) (k : Int) (n m : Nat), At w F p d → StOk d n m → n ≤ 30000 → m ≤ 50000000 → i64 k →
    Calls Try.prog 21 #[p, .int .i64 k] w fun e w' => ∃ vb, e = .returned (.tuple #[vb, .bool (getSt d k).2]) ∧ w'.ownsRow w.heap.size 5 1 vb (getSt d k).1.length (bytVs (getSt d k).1) ∧ Below w.heap.size w w'
  keys : ∀ (w : World) (F : Foot) (p : Value) (d : St) (n m : Nat), At w F p d → StOk d n m → n ≤ 30000 → m ≤ 50000000 →
    Calls Try.prog 30 #[p] w fun e w' => ∃ v, e = .returned v ∧ IntsAt w' v (d.all.map (·.1)) ∧ Below w.heap.size w w'
  len : ∀ (w : World) (F : Foot) (p : Value) (d : St) (n m : Nat), At w F p d → StOk d n m → n ≤ 30000 → m ≤ 50000000 →
    Calls Try.prog 23 #[p] w fun e w' => e = .returned (.int .i64 (sumB d.all)) ∧ Below w.heap.size w w'
  room : ∀ (w : World) (F : Foot) (p : Value) (d : St), At w F p d →
    Calls Try.prog 32 #[p] w fun e w' => e = .returned (.int .i64 d.room) ∧ Below w.heap.size w w'
  left : ∀ (w : World) (F : Foot) (p : Value) (d : St) (n m : Nat), At w F p d → StOk d n m → n ≤ 30000 → m ≤ 50000000 →
    Calls Try.prog 19 #[p] w fun e w' => e = .returned (.int .i64 (sumB d.under)) ∧ Below w.heap.size w w'
variable {I : DiskI}
theorem DiskI.get (I : DiskI) (w : World) (F : Foot) (p : Value) (d : St) (k : Int) (n m : Nat) (hA : I.At w F p d) (ok : StOk d n m) (hn : n ≤ 30000) (hm : m ≤ 50000000) (hk : i64 k) :
    Calls Try.prog 21 #[p, .int .i64 k] w fun e w' => ∃ vb, e = .returned (.tuple #[vb, .bool (getSt d k).2]) ∧ BytsAt w' vb (getSt d k).1 ∧ Below w.heap.size w w' := by
  refine (I.getO w F p d k n m hA ok hn hm hk).mono ?_
  rintro e w' ⟨vb, he, ho, hb⟩
  exact ⟨vb, he, byts_of_owned ho, hb⟩
/-- A row of new memory stays through deeds on a disk that lies below it. -/
theorem Step.owned {F F' : Foot} {w w' : World} {base : Nat} {e : TypeId} {size n : Nat} {v : Value} {xs : List Value} (hs : Step F F' w w') (ho : w.ownsRow base e size v n xs) (hF : ∀ b, F b → b < base) : w'.ownsRow base e size v n xs := by
  refine ⟨ho.1, ?_⟩
  rcases ho.2 with h | ⟨g, cap, cur, hv, hb, hg, rest⟩
  · exact .inl h
  · exact .inr ⟨g, cap, cur, hv, hb, (hs.block g (Array.getElem?_eq_some_iff.1 hg).1 (fun h => by have := hF g h; omega)).trans hg, rest⟩
theorem DiskI.keep (I : DiskI) {w w' : World} {F : Foot} {p : Value} {d : St} (h : I.At w F p d) (hb : Below w.heap.size w w') : I.At w' F p d := I.same h fun b hF => hb.block b (I.lt h b hF)
/-- Rows of those types stay through deeds. -/
theorem DiskI.row (I : DiskI) {w w' : World} {F F' : Foot} {p : Value} {d : St} (h : I.At w F p d) (hs : Step F F' w w') {b : Nat} {cs : Array Value} {t : TypeId} (ht : calmT t) (r : RowAt w b cs t) : RowAt w' b cs t :=
  (hs.block b r.lt (fun hF => I.types h b _ _ _ hF r ht)).trans r
theorem DiskI.dat (I : DiskI) {R : Value → List Int → Prop} {w w' : World} {F F' : Foot} {p v : Value} {d r : St} (h : I.At w F p d) (hs : Step F F' w w') (hr : DAtR R w v r) : DAtR R w' v r :=
  hr.typed fun b c f hb => (hs.block b (Array.getElem?_eq_some_iff.1 hb).1 (fun hF => I.types h b _ _ _ hF hb (.inl rfl))).trans hb
theorem Step.below {F F' : Foot} {w w' : World} {lo : Nat} (hs : Step F F' w w') (hF : ∀ b, F b → lo ≤ b) (hlo : lo ≤ w.heap.size) : Below lo w w' :=
  ⟨hs.os, hs.tape, hs.output, hs.size, fun b hb => hs.block b (Nat.lt_of_lt_of_le hb hlo) (fun h => absurd (hF b h) (by omega))⟩
theorem Step.low {F F' : Foot} {w w' : World} {lo : Nat} (hs : Step F F' w w') (hF : ∀ b, F b → lo ≤ b) (hlo : lo ≤ w.heap.size) : ∀ b, F' b → lo ≤ b := fun b hb => (hs.fresh b hb).elim (hF b) (fun h => Nat.le_trans hlo h)
theorem Step.of {F : Foot} {w w' : World} (hb : Below w.heap.size w w') : Step F F w w' := ⟨hb.os, hb.tape, hb.output, hb.size, fun b h _ => hb.block b h, fun b h => .inl h⟩
theorem Step.trans {F F' F'' : Foot} {w w' w'' : World} (h : Step F F' w w') (k : Step F' F'' w' w'') : Step F F'' w w'' :=
  ⟨k.os.trans h.os, k.tape.trans h.tape, k.output.trans h.output, Nat.le_trans h.size k.size,
   fun b hb hn => (k.block b (Nat.lt_of_lt_of_le hb h.size) (fun hF => (h.fresh b hF).elim hn (fun h2 => by omega))).trans (h.block b hb hn),
   fun b hb => (k.fresh b hb).elim (h.fresh b) (fun h2 => .inr (Nat.le_trans h.size h2))⟩
abbrev lay5 (u : World) (b : Nat) (x0 x1 x2 x3 x4 : Value) : World := ((((u.setCell ⟨b, 0, none⟩ x0).setCell ⟨b, 1, none⟩ x1).setCell ⟨b, 2, none⟩ x2).setCell ⟨b, 3, none⟩ x3).setCell ⟨b, 4, none⟩ x4
theorem lay5_other (u : World) (b : Nat) (x0 x1 x2 x3 x4 : Value) {k : Nat} (h : k ≠ b) : (lay5 u b x0 x1 x2 x3 x4).heap[k]? = u.heap[k]? := by
  unfold lay5
  rw [Below.heap_setCell _ ⟨b, 4, none⟩ x4 k h, Below.heap_setCell _ ⟨b, 3, none⟩ x3 k h, Below.heap_setCell _ ⟨b, 2, none⟩ x2 k h, Below.heap_setCell _ ⟨b, 1, none⟩ x1 k h, Below.heap_setCell _ ⟨b, 0, none⟩ x0 k h]
theorem lay5_size (u : World) (b : Nat) (x0 x1 x2 x3 x4 : Value) : (lay5 u b x0 x1 x2 x3 x4).heap.size = u.heap.size := by simp [lay5, World.setCell]
/-- A variable of the law's own is laid whole. -/
theorem Step.set {F F' : Foot} {w u : World} (h : Step F F' w u) {b : Nat} (hb : w.heap.size ≤ b) (o : Nat) (x : Value) : Step F F' w (u.setCell ⟨b, o, none⟩ x) :=
  ⟨h.os, h.tape, h.output, by simpa [World.setCell] using h.size, fun k hk hn => (Below.heap_setCell u ⟨b, o, none⟩ x k (by show k ≠ b; omega)).trans (h.block k hk hn), h.fresh⟩
theorem Step.put5 {F F' : Foot} {w u : World} (h : Step F F' w u) {b : Nat} (hb : w.heap.size ≤ b) (x0 x1 x2 x3 x4 : Value) : Step F F' w (lay5 u b x0 x1 x2 x3 x4) :=
  ((((h.set hb 0 x0).set hb 1 x1).set hb 2 x2).set hb 3 x3).set hb 4 x4
theorem DiskI.put5 (I : DiskI) {u : World} {F : Foot} {p : Value} {d : St} (h : I.At u F p d) {b : Nat} {cs : Array Value} {t : TypeId} (r : RowAt u b cs t) (ht : calmT t) (x0 x1 x2 x3 x4 : Value) : I.At (lay5 u b x0 x1 x2 x3 x4) F p d :=
  I.same h fun k hF => lay5_other u b x0 x1 x2 x3 x4 (by rintro rfl; exact I.types h _ _ _ _ hF r ht)
theorem DAtR.put5 {R : Value → List Int → Prop} {u : World} {v : Value} {d : St} (h : DAtR R u v d) {b : Nat} {cs : Array Value} (r : RowAt u b cs 28) (x0 x1 x2 x3 x4 : Value) : DAtR R (lay5 u b x0 x1 x2 x3 x4) v d :=
  h.typed fun k c f hk => (lay5_other u b x0 x1 x2 x3 x4 (by
    rintro rfl
    rw [show u.heap[k]? = _ from r] at hk
    cases hk)).trans hk
end Go.Proofs.Ytkephcmjigfepaa
