/- Texts behind each other. -/
import Derived.Test.YthjekbbldejlpaaZ09
import Derived.Test.YthjekbbldejlpaaZ04
import Derived.Test.YthjekbbldejlpaaZ03
import Derived.Laws.BitsAllLaws
import Derived.IntWalk
/- Contracts of layer 8's reference (disk), over its state. -/
set_option linter.unusedVariables false
set_option linter.unusedSimpArgs false
namespace Go.Proofs.Ythjekbbldejlpaa
open Go.ChangeShapes Go.WideShapes Go.ChangeAt Go.RowKit
theorem st_i64 {d : St} {n m : Nat} (ok : StOk d n m) : i64 d.fails := by have := ok.fails; constructor <;> omega
theorem rG_put (v : Value) (d : St) (k : Int) (vb : Value) (B : List Int) (R : Value → List Int → Prop) [GoodR R] (w : World) {n m : Nat} (hd : DAtR R w v d) (ok : StOk d n m) (hn : n ≤ 40000) (hm : m ≤ 100000000) (hk : i64 k) (hb : R vb B) (hB : B.length ≤ 1000000) :
    Calls Try.prog 57 #[v, .int .i64 k, vb] w fun e w' => ∃ v', e = .returned (.tuple #[v', .int .i64 (putSt d k B).2]) ∧ DAtR R w' v' (putSt d k B).1 ∧ Below w.heap.size w w' := by
  obtain ⟨vs, vl, rs, rl, rfl, h1, h2, h3, h4⟩ := hd
  obtain ⟨pb, cb, rfl, _⟩ := GoodR.form hb
  have l1 := h3.len
  have l2 := h4.len
  have hl := ok.len
  have hT := (h4.now h3).lay (k := k) hb
  have hs := hT.sum
  have hle : sumB (layF d.all (k, B)) ≤ 1000000000000 := by
    have a := layF_sum d.all (k, B)
    have b := nowF_sum d.under d.safe
    have c := ok.sum
    unfold St.all at *
    simp only [] at a
    omega
  refine (r8_put d.room d.fails d.wait k vs vl rs rl pb B.length cb w (st_i64 ok) hk h1 h2 (h3.ok ok.rs) (h4.ok ok.ru) (by omega) (by omega) (by rw [hs]; exact hle)).mono ?_
  rintro e w' ⟨vl', rfl, hr, hw⟩
  have e1 : (putF lenR d.room d.fails d.wait rs rl (k, .slice pb B.length cb)).2 = (putSt d k B).2 := by
    unfold putF putSt St.falls
    rw [hs]
    split
    · rfl
    · unfold St.all; split <;> rfl
  refine ⟨_, by rw [e1], ?_, hw⟩
  unfold putF at hr
  rw [hs] at hr
  unfold putSt St.falls
  by_cases c1 : (askF d.fails d.wait).2 = true
  · rw [if_pos c1] at hr
    rw [if_pos c1]
    exact ⟨vs, vl', rs, rl, rfl, h1.keep hw, hr, h3, h4⟩
  · rw [if_neg c1] at hr
    rw [if_neg c1]
    unfold St.all
    by_cases c2 : d.room < sumB (layF (nowF d.safe d.under) (k, B))
    · rw [if_pos c2] at hr
      rw [if_pos c2]
      exact ⟨vs, vl', rs, rl, rfl, h1.keep hw, hr, h3, h4⟩
    · rw [if_neg c2] at hr
      rw [if_neg c2]
      exact ⟨vs, vl', rs, _, rfl, h1.keep hw, hr, h3, rel_append h4 (rel_one (hb))⟩
theorem rG_sync (v : Value) (d : St) (R : Value → List Int → Prop) [GoodR R] (w : World) {n m : Nat} (hd : DAtR R w v d) (ok : StOk d n m) (hn : n ≤ 40000) :
    Calls Try.prog 36 #[v] w fun e w' => ∃ v', e = .returned (.tuple #[v', .int .i64 (syncSt d).2]) ∧ DAtR R w' v' (syncSt d).1 ∧ Below w.heap.size w w' := by
  obtain ⟨vs, vl, rs, rl, rfl, h1, h2, h3, h4⟩ := hd
  have l1 := h3.len
  have l2 := h4.len
  have hl := ok.len
  refine (r8_sync d.room d.fails d.wait vs vl rs rl w (st_i64 ok) h1 h2 (h3.ok ok.rs) (h4.ok ok.ru) (by omega) (by omega)).mono ?_
  rintro e w' ⟨vs', vl', rfl, hs, hl, hw⟩
  by_cases c : d.falls = true
  · have e1 : syncSt d = (d.asked, 9) := if_pos c
    have c1 : (askF d.fails d.wait).2 = true := c
    rw [if_pos c1] at hs hl
    rw [e1]
    exact ⟨_, by rw [if_pos c1]; rfl, ⟨vs', vl', rs, rl, rfl, hs, hl, h3, h4⟩, hw⟩
  · have e1 : syncSt d = ({ d.asked with safe := d.all, under := [] }, 0) := if_neg c
    have c1 : ¬ (askF d.fails d.wait).2 = true := c
    rw [if_neg c1] at hs hl
    rw [e1]
    exact ⟨_, by rw [if_neg c1]; rfl, ⟨vs', vl', _, _, rfl, hs, hl, h4.now h3, .nil⟩, hw⟩
theorem rG_fail (v : Value) (d : St) (k : Int) (hk : i64 k) (R : Value → List Int → Prop) [GoodR R] (w : World) (hd : DAtR R w v d) :
    Calls Try.prog 40 #[v, .int .i64 k] w fun e w' => ∃ v', e = .returned v' ∧ DAtR R w' v' (failSt d k) ∧ Below w.heap.size w w' := by
  obtain ⟨vs, vl, rs, rl, rfl, h1, h2, h3, h4⟩ := hd
  obtain ⟨p, c, rfl, _⟩ := h1.form
  obtain ⟨q, e, rfl, _⟩ := h2.form
  refine (r8_fail d.room d.fails d.wait k p q _ c _ e w hk).mono ?_
  rintro e w' ⟨rfl, hw⟩
  exact ⟨_, rfl, ⟨_, _, rs, rl, rfl, h1.keep hw, h2.keep hw, h3, h4⟩, hw⟩
theorem rG_crash (v : Value) (d : St) (k : Int) (hk : i64 k) (R : Value → List Int → Prop) [GoodR R] (w : World) {n m : Nat} (hd : DAtR R w v d) (ok : StOk d n m) (hn : n ≤ 40000) (hm : m ≤ 100000000) :
    Calls Try.prog 38 #[v, .int .i64 k] w fun e w' => ∃ v', e = .returned (.tuple #[v', .int .i64 (crashSt d k).2]) ∧ DAtR R w' v' (crashSt d k).1 ∧ Below w.heap.size w w' := by
  obtain ⟨vs, vl, rs, rl, rfl, h1, h2, h3, h4⟩ := hd
  have l1 := h3.len
  have l2 := h4.len
  have hl := ok.len
  have hs := h4.sum
  have hsum := ok.sum
  refine (r8_crash d.room d.fails d.wait k vs vl rs rl w hk h1 h2 (h3.ok ok.rs) (h4.ok ok.ru) (by omega) (by omega) (by omega) h4.cap).mono ?_
  rintro e w' ⟨vs', rfl, hr, hw⟩
  rw [hs] at hr ⊢
  exact ⟨_, rfl, ⟨vs', _, _, [], rfl, hr, .inl ⟨⟨_, _, rfl⟩, rfl⟩, h4.crash _ h3, .nil⟩, hw⟩
theorem rG_new (room : Int) (R : Value → List Int → Prop) [GoodR R] (w : World) :
    Calls Try.prog 18 #[.int .i64 room] w fun e w' => ∃ v', e = .returned v' ∧ DAtR R w' v' (newSt room) ∧ Below w.heap.size w w' := by
  refine (r8_new room w).mono ?_
  rintro e w' ⟨rfl, hw⟩
  exact ⟨_, rfl, ⟨_, _, [], [], rfl, .inl ⟨⟨_, _, rfl⟩, rfl⟩, .inl ⟨⟨_, _, rfl⟩, rfl⟩, .nil, .nil⟩, hw⟩
theorem rG_get (v : Value) (d : St) (k : Int) (R : Value → List Int → Prop) [GoodR R] (w : World) {n m : Nat} (hd : DAtR R w v d) (ok : StOk d n m) (hn : n ≤ 40000) :
    Calls Try.prog 63 #[v, .int .i64 k] w fun e w' => ∃ vb, e = .returned (.tuple #[vb, .bool (getSt d k).2]) ∧ R vb (getSt d k).1 ∧ Below w.heap.size w w' := by
  obtain ⟨vs, vl, rs, rl, rfl, h1, h2, h3, h4⟩ := hd
  have l1 := h3.len
  have l2 := h4.len
  have hl := ok.len
  refine (r8_get d.room d.fails d.wait vs vl rs rl k w h1 h2 (h3.ok ok.rs) (h4.ok ok.ru) (by omega) (by omega)).mono ?_
  rintro e w' ⟨rfl, hw⟩
  unfold getSt St.all
  rcases (h4.now h3).get (k := k) with ⟨e1, e2⟩ | ⟨x, B, e1, e2, hb⟩
  · rw [e1, e2]
    exact ⟨_, rfl, GoodR.nil, hw⟩
  · rw [e1, e2]
    exact ⟨_, rfl, hb, hw⟩
/-- All blobs as they were put last, of both. -/
theorem rG_now (v : Value) (d : St) (R : Value → List Int → Prop) [GoodR R] (w : World) {n m : Nat} (hd : DAtR R w v d) (ok : StOk d n m) (hn : n ≤ 40000) :
    Calls Try.prog 59 #[v] w fun e w' => ∃ v' rs, e = .returned v' ∧ RawAt w' v' rs ∧ RelG R rs d.all ∧ Below w.heap.size w w' := by
  obtain ⟨vs, vl, rs, rl, rfl, h1, h2, h3, h4⟩ := hd
  have l1 := h3.len
  have l2 := h4.len
  have hl := ok.len
  refine (r8_now d.room d.fails d.wait vs vl rs rl w h1 h2 (h3.ok ok.rs) (h4.ok ok.ru) (by omega) (by omega)).mono ?_
  rintro e w' ⟨v', rfl, hr, _, hw⟩
  exact ⟨v', _, rfl, hr, h4.now h3, hw⟩
theorem rG_len (v : Value) (rs : List Raw) (bs : Blobs) (R : Value → List Int → Prop) [GoodR R] (w : World) (h : RawAt w v rs) (hr : RelG R rs bs) (hk : keysOk bs) (hn : bs.length ≤ 100000) (hs : sumB bs ≤ 1000000000000) :
    Calls Try.prog 46 #[v] w fun e w' => e = .returned (.int .i64 (sumB bs)) ∧ Below w.heap.size w w' := by
  have e := hr.sum
  have h2 := r8_len v rs w h (hr.ok hk) (by have := hr.len; omega) (by omega)
  rwa [e] at h2
theorem rA_put (v : Value) (d : St) (k : Int) (vb : Value) (B : List Int) (w0 w : World) {n m : Nat} (hd : DAt w0 w v d) (ok : StOk d n m) (hn : n ≤ 40000) (hm : m ≤ 100000000) (hk : i64 k) (hb : BytsAt w0 vb B) (hB : B.length ≤ 1000000) :
    Calls Try.prog 57 #[v, .int .i64 k, vb] w fun e w' => ∃ v', e = .returned (.tuple #[v', .int .i64 (putSt d k B).2]) ∧ DAt w0 w' v' (putSt d k B).1 ∧ Below w.heap.size w w' := rG_put v d k vb B (BytsAt w0) w hd ok hn hm hk hb hB
theorem rA_sync (v : Value) (d : St) (w0 w : World) {n m : Nat} (hd : DAt w0 w v d) (ok : StOk d n m) (hn : n ≤ 40000) :
    Calls Try.prog 36 #[v] w fun e w' => ∃ v', e = .returned (.tuple #[v', .int .i64 (syncSt d).2]) ∧ DAt w0 w' v' (syncSt d).1 ∧ Below w.heap.size w w' := rG_sync v d (BytsAt w0) w hd ok hn
theorem rA_fail (v : Value) (d : St) (k : Int) (hk : i64 k) (w0 w : World) (hd : DAt w0 w v d) :
    Calls Try.prog 40 #[v, .int .i64 k] w fun e w' => ∃ v', e = .returned v' ∧ DAt w0 w' v' (failSt d k) ∧ Below w.heap.size w w' := rG_fail v d k hk (BytsAt w0) w hd
theorem rA_crash (v : Value) (d : St) (k : Int) (hk : i64 k) (w0 w : World) {n m : Nat} (hd : DAt w0 w v d) (ok : StOk d n m) (hn : n ≤ 40000) (hm : m ≤ 100000000) :
    Calls Try.prog 38 #[v, .int .i64 k] w fun e w' => ∃ v', e = .returned (.tuple #[v', .int .i64 (crashSt d k).2]) ∧ DAt w0 w' v' (crashSt d k).1 ∧ Below w.heap.size w w' := rG_crash v d k hk (BytsAt w0) w hd ok hn hm
theorem rA_new (room : Int) (w0 w : World) :
    Calls Try.prog 18 #[.int .i64 room] w fun e w' => ∃ v', e = .returned v' ∧ DAt w0 w' v' (newSt room) ∧ Below w.heap.size w w' := rG_new room (BytsAt w0) w
theorem rA_get (v : Value) (d : St) (k : Int) (w0 w : World) {n m : Nat} (hd : DAt w0 w v d) (ok : StOk d n m) (hn : n ≤ 40000) :
    Calls Try.prog 63 #[v, .int .i64 k] w fun e w' => ∃ vb, e = .returned (.tuple #[vb, .bool (getSt d k).2]) ∧ BytsAt w0 vb (getSt d k).1 ∧ Below w.heap.size w w' := rG_get v d k (BytsAt w0) w hd ok hn
theorem rA_now (v : Value) (d : St) (w0 w : World) {n m : Nat} (hd : DAt w0 w v d) (ok : StOk d n m) (hn : n ≤ 40000) :
    Calls Try.prog 59 #[v] w fun e w' => ∃ v' rs, e = .returned v' ∧ RawAt w' v' rs ∧ RelR w0 rs d.all ∧ Below w.heap.size w w' := rG_now v d (BytsAt w0) w hd ok hn
theorem rA_len (v : Value) (rs : List Raw) (bs : Blobs) (w0 w : World) (h : RawAt w v rs) (hr : RelR w0 rs bs) (hk : keysOk bs) (hn : bs.length ≤ 100000) (hs : sumB bs ≤ 1000000000000) :
    Calls Try.prog 46 #[v] w fun e w' => e = .returned (.int .i64 (sumB bs)) ∧ Below w.heap.size w w' := rG_len v rs bs (BytsAt w0) w h hr hk hn hs
end Go.Proofs.Ythjekbbldejlpaa
/- What the laws of layer 8 ask of the landed disk: contracts over a footprint (the blocks that it is made of), a structure: to be filled for the landed code (diskI). -/
set_option linter.unusedVariables false
set_option linter.unusedSimpArgs false
namespace Go.Proofs.Ythjekbbldejlpaa
open Go Go.RowKit
abbrev Foot := Nat → Prop
/-- What a deed on a disk of footprint F leaves: all other blocks as they were; F' is of F's blocks, and new ones. -/
structure Step (F F' : Foot) (w w' : World) : Prop where
  os : w'.os = w.os
  tape : w'.tape = w.tape
  output : w'.output = w.output
  size : w.heap.size ≤ w'.heap.size
  block : ∀ b, b < w.heap.size → ¬ F b → w'.heap[b]? = w.heap[b]?
  fresh : ∀ b, F' b → F b ∨ w.heap.size ≤ b
/-- Types of rows that no disk writes. -/
def calmT (t : TypeId) : Prop := t = 106 ∨ t = 39
  ∨ t = 44
structure DiskI where
  At : World → Foot → Value → St → Prop
  lt : ∀ {w F p d}, At w F p d → ∀ b, F b → b < w.heap.size
  ptr : ∀ {w F p d}, At w F p d → ∃ a, p = .pointer (some a)
  same : ∀ {w w' F p d}, At w F p d → (∀ b, F b → w'.heap[b]? = w.heap[b]?) → At w' F p d
  types : ∀ {w F p d}, At w F p d → ∀ b c t f, F b → w.heap[b]? = some (.cells c t f) → ¬ calmT t
  new : ∀ (room : Int) (w : World), i64 room → Calls Try.prog 34 #[.int .i64 room] w fun e w' => ∃ p F, e = .returned p ∧ At w' F p (newSt room) ∧ (∀ b, F b → w.heap.size ≤ b) ∧ Below w.heap.size w w'
  put : ∀ (w : World) (F : Foot) (p : Value) (d : St) (k : Int) (vb : Value) (B : List Int) (n m : Nat), At w F p d → StOk d n m → n ≤ 30000 → m ≤ 50000000 → i64 k → BytsAt w vb B → bytOk B → B.length ≤ 1000000 →
    Calls Try.prog 49 #[p, .int .i64 k, vb] w fun e w' => ∃ F', e = .returned (.int .i64 (putSt d k B).2) ∧ At w' F' p (putSt d k B).1 ∧ Step F F' w w'
  sync : ∀ (w : World) (F : Foot) (p : Value) (d : St) (n m : Nat), At w F p d → StOk d n m → n ≤ 30000 → m ≤ 50000000 →
    Calls Try.prog 37 #[p] w fun e w' => ∃ F', e = .returned (.int .i64 (syncSt d).2) ∧ At w' F' p (syncSt d).1 ∧ Step F F' w w'
  fail : ∀ (w : World) (F : Foot) (p : Value) (d : St) (k : Int), At w F p d → i64 k →
    Calls Try.prog 33 #[p, .int .i64 k] w fun e w' => ∃ F' v, e = .returned v ∧ At w' F' p (failSt d k) ∧ Step F F' w w'
  crash : ∀ (w : World) (F : Foot) (p : Value) (d : St) (k : Int) (n m : Nat), At w F p d → StOk d n m → n ≤ 30000 → m ≤ 50000000 → i64 k →
    Calls Try.prog 39 #[p, .int .i64 k] w fun e w' => ∃ F', e = .returned (.int .i64 (crashSt d k).2) ∧ At w' F' p (crashSt d k).1 ∧ Step F F' w w'
  getO : ∀ (w : World) (F : Foot) (p : Value) (d : St) (k : Int) (n m : Nat), At w F p d → StOk d n m → n ≤ 30000 → m ≤ 50000000 → i64 k →
    Calls Try.prog 50 #[p, .int .i64 k] w fun e w' => ∃ vb, e = .returned (.tuple #[vb, .bool (getSt d k).2]) ∧ w'.ownsRow w.heap.size 5 1 vb (getSt d k).1.length (bytVs (getSt d k).1) ∧ Below w.heap.size w w'
  keys : ∀ (w : World) (F : Foot) (p : Value) (d : St) (n m : Nat), At w F p d → StOk d n m → n ≤ 30000 → m ≤ 50000000 →
    Calls Try.prog 64 #[p] w fun e w' => ∃ v, e = .returned v ∧ IntsAt w' v (d.all.map (·.1)) ∧ Below w.heap.size w w'
  left : ∀ (w : World) (F : Foot) (p : Value) (d : St) (n m : Nat), At w F p d → StOk d n m → n ≤ 30000 → m ≤ 50000000 →
    Calls Try.prog 22 #[p] w fun e w' => e = .returned (.int .i64 (sumB d.under)) ∧ Below w.heap.size w w'
variable {I : DiskI}
theorem DiskI.get (I : DiskI) (w : World) (F : Foot) (p : Value) (d : St) (k : Int) (n m : Nat) (hA : I.At w F p d) (ok : StOk d n m) (hn : n ≤ 30000) (hm : m ≤ 50000000) (hk : i64 k) :
    Calls Try.prog 50 #[p, .int .i64 k] w fun e w' => ∃ vb, e = .returned (.tuple #[vb, .bool (getSt d k).2]) ∧ BytsAt w' vb (getSt d k).1 ∧ Below w.heap.size w w' := by
  refine (I.getO w F p d k n m hA ok hn hm hk).mono ?_
  rintro e w' ⟨vb, he, ho, hb⟩
  exact ⟨vb, he, byts_of_owned ho, hb⟩
/-- A row of new memory stays through deeds on a disk that lies below it. -/
theorem Step.owned {F F' : Foot} {w w' : World} {base : Nat} {e : TypeId} {size n : Nat} {v : Value} {xs : List Value} (hs : Step F F' w w') (ho : w.ownsRow base e size v n xs) (hF : ∀ b, F b → b < base) : w'.ownsRow base e size v n xs := by
  refine ⟨ho.1, ?_⟩
  rcases ho.2 with h | ⟨g, cap, cur, hv, hb, hg, rest⟩
  · exact .inl h
  · exact .inr ⟨g, cap, cur, hv, hb, (hs.block g (Array.getElem?_eq_some_iff.1 hg).1 (fun h => by have := hF g h; omega)).trans hg, rest⟩
theorem DiskI.keep (I : DiskI) {w w' : World} {F : Foot} {p : Value} {d : St} (h : I.At w F p d) (hb : Below w.heap.size w w') : I.At w' F p d := I.same h fun b hF => hb.block b (I.lt h b hF)
/-- Rows of those types stay through deeds. -/
theorem DiskI.row (I : DiskI) {w w' : World} {F F' : Foot} {p : Value} {d : St} (h : I.At w F p d) (hs : Step F F' w w') {b : Nat} {cs : Array Value} {t : TypeId} (ht : calmT t) (r : RowAt w b cs t) : RowAt w' b cs t :=
  (hs.block b r.lt (fun hF => I.types h b _ _ _ hF r ht)).trans r
theorem DiskI.dat (I : DiskI) {R : Value → List Int → Prop} {w w' : World} {F F' : Foot} {p v : Value} {d r : St} (h : I.At w F p d) (hs : Step F F' w w') (hr : DAtR R w v r) : DAtR R w' v r :=
  hr.typed fun b c f hb => (hs.block b (Array.getElem?_eq_some_iff.1 hb).1 (fun hF => I.types h b _ _ _ hF hb (.inl rfl))).trans hb
theorem Step.below {F F' : Foot} {w w' : World} {lo : Nat} (hs : Step F F' w w') (hF : ∀ b, F b → lo ≤ b) (hlo : lo ≤ w.heap.size) : Below lo w w' :=
  ⟨hs.os, hs.tape, hs.output, hs.size, fun b hb => hs.block b (Nat.lt_of_lt_of_le hb hlo) (fun h => absurd (hF b h) (by omega))⟩
theorem Step.low {F F' : Foot} {w w' : World} {lo : Nat} (hs : Step F F' w w') (hF : ∀ b, F b → lo ≤ b) (hlo : lo ≤ w.heap.size) : ∀ b, F' b → lo ≤ b := fun b hb => (hs.fresh b hb).elim (hF b) (fun h => Nat.le_trans hlo h)
theorem Step.of {F : Foot} {w w' : World} (hb : Below w.heap.size w w') : Step F F w w' := ⟨hb.os, hb.tape, hb.output, hb.size, fun b h _ => hb.block b h, fun b h => .inl h⟩
theorem Step.trans {F F' F'' : Foot} {w w' w'' : World} (h : Step F F' w w') (k : Step F' F'' w' w'') : Step F F'' w w'' :=
  ⟨k.os.trans h.os, k.tape.trans h.tape, k.output.trans h.output, Nat.le_trans h.size k.size,
   fun b hb hn => (k.block b (Nat.lt_of_lt_of_le hb h.size) (fun hF => (h.fresh b hF).elim hn (fun h2 => by omega))).trans (h.block b hb hn),
   fun b hb => (k.fresh b hb).elim (h.fresh b) (fun h2 => .inr (Nat.le_trans h.size h2))⟩
abbrev lay5 (u : World) (b : Nat) (x0 x1 x2 x3 x4 : Value) : World := ((((u.setCell ⟨b, 0, none⟩ x0).setCell ⟨b, 1, none⟩ x1).setCell ⟨b, 2, none⟩ x2).setCell ⟨b, 3, none⟩ x3).setCell ⟨b, 4, none⟩ x4
theorem lay5_other (u : World) (b : Nat) (x0 x1 x2 x3 x4 : Value) {k : Nat} (h : k ≠ b) : (lay5 u b x0 x1 x2 x3 x4).heap[k]? = u.heap[k]? := by
  unfold lay5
  rw [Below.heap_setCell _ ⟨b, 4, none⟩ x4 k h, Below.heap_setCell _ ⟨b, 3, none⟩ x3 k h, Below.heap_setCell _ ⟨b, 2, none⟩ x2 k h, Below.heap_setCell _ ⟨b, 1, none⟩ x1 k h, Below.heap_setCell _ ⟨b, 0, none⟩ x0 k h]
theorem lay5_size (u : World) (b : Nat) (x0 x1 x2 x3 x4 : Value) : (lay5 u b x0 x1 x2 x3 x4).heap.size = u.heap.size := by simp [lay5, World.setCell]
/-- A variable of the law's own is laid whole. -/
theorem Step.set {F F' : Foot} {w u : World} (h : Step F F' w u) {b : Nat} (hb : w.heap.size ≤ b) (o : Nat) (x : Value) : Step F F' w (u.setCell ⟨b, o, none⟩ x) :=
  ⟨h.os, h.tape, h.output, by simpa [World.setCell] using h.size, fun k hk hn => (Below.heap_setCell u ⟨b, o, none⟩ x k (by show k ≠ b; omega)).trans (h.block k hk hn), h.fresh⟩
theorem Step.put5 {F F' : Foot} {w u : World} (h : Step F F' w u) {b : Nat} (hb : w.heap.size ≤ b) (x0 x1 x2 x3 x4 : Value) : Step F F' w (lay5 u b x0 x1 x2 x3 x4) :=
  ((((h.set hb 0 x0).set hb 1 x1).set hb 2 x2).set hb 3 x3).set hb 4 x4
theorem DiskI.put5 (I : DiskI) {u : World} {F : Foot} {p : Value} {d : St} (h : I.At u F p d) {b : Nat} {cs : Array Value} {t : TypeId} (r : RowAt u b cs t) (ht : calmT t) (x0 x1 x2 x3 x4 : Value) : I.At (lay5 u b x0 x1 x2 x3 x4) F p d :=
  I.same h fun k hF => lay5_other u b x0 x1 x2 x3 x4 (by rintro rfl; exact I.types h _ _ _ _ hF r ht)
theorem DAtR.put5 {R : Value → List Int → Prop} {u : World} {v : Value} {d : St} (h : DAtR R u v d) {b : Nat} {cs : Array Value} (r : RowAt u b cs 39) (x0 x1 x2 x3 x4 : Value) : DAtR R (lay5 u b x0 x1 x2 x3 x4) v d :=
  h.typed fun k c f hk => (lay5_other u b x0 x1 x2 x3 x4 (by
    rintro rfl
    rw [show u.heap[k]? = _ from r] at hk
    cases hk)).trans hk
end Go.Proofs.Ythjekbbldejlpaa
/- Words of layer 7: the check of bytes; what it finds. No program. -/
set_option linter.unusedVariables false
namespace Go.Proofs.Ythjekbbldejlpaa
open Go Go.RowKit
abbrev W16 := BitVec 16
def stB (c : W16) : W16 := (c <<< 1) ^^^ (if c.msb = true then 0x1021#16 else 0#16)
def st8 (c : W16) : W16 := stB (stB (stB (stB (stB (stB (stB (stB c)))))))
def byB (b : Int) : W16 := BitVec.ofNat 16 (b.toNat * 256)
def stepV (c : W16) (b : Int) : W16 := st8 (c ^^^ byB b)
def sumV (c : W16) (l : List Int) : W16 := l.foldl stepV c
theorem sumV_append (c : W16) (a b : List Int) : sumV c (a ++ b) = sumV (sumV c a) b := by unfold sumV; rw [List.foldl_append]
theorem stB_lin (a b : W16) : stB (a ^^^ b) = stB a ^^^ stB b := by
  unfold stB
  rw [BitVec.shiftLeft_xor_distrib, BitVec.msb_xor]
  cases a.msb <;> cases b.msb <;> simp [BitVec.xor_assoc]
  · exact BitVec.xor_comm _ _
  · rw [BitVec.xor_comm (b <<< 1), ← BitVec.xor_assoc, BitVec.xor_self, BitVec.zero_xor]
theorem st8_lin (a b : W16) : st8 (a ^^^ b) = st8 a ^^^ st8 b := by simp only [st8, stB_lin]
theorem stB_nat (c : W16) : (stB c).toNat = if 65536 ≤ c.toNat * 2 then (c.toNat * 2 - 65536) ^^^ 4129 else c.toNat * 2 := by
  have hl := c.isLt
  have hs : (c <<< 1).toNat = c.toNat * 2 % 65536 := by rw [BitVec.toNat_shiftLeft, Nat.shiftLeft_eq]
  have hm : c.msb = decide (32768 ≤ c.toNat) := by rw [BitVec.msb_eq_decide]
  unfold stB
  rw [BitVec.toNat_xor, hs, hm]
  by_cases h : 32768 ≤ c.toNat
  · rw [if_pos (by simpa using h), if_pos (by omega), show c.toNat * 2 % 65536 = c.toNat * 2 - 65536 by omega]; rfl
  · rw [if_neg (by simpa using h), if_neg (by omega), show c.toNat * 2 % 65536 = c.toNat * 2 by omega]; simp
theorem nat_xor_none {a b : Nat} (h : a ^^^ b = 0) : a = b := by
  have := congrArg (· ^^^ b) h
  simpa [Nat.xor_assoc] using this
theorem stB_none {d : W16} (h : stB d = 0#16) : d = 0#16 := by
  have h1 := congrArg BitVec.toNat h
  rw [stB_nat] at h1
  apply BitVec.eq_of_toNat_eq
  have hz : (0#16).toNat = 0 := rfl
  rw [hz] at h1 ⊢
  split at h1
  · have := nat_xor_none h1
    omega
  · omega
theorem st8_none {d : W16} (h : st8 d = 0#16) : d = 0#16 := by
  unfold st8 at h
  exact stB_none (stB_none (stB_none (stB_none (stB_none (stB_none (stB_none (stB_none h)))))))
theorem xor_none {a b : W16} (h : a ^^^ b = 0#16) : a = b := by
  have := congrArg (· ^^^ b) h
  simpa [BitVec.xor_assoc] using this
theorem st8_inj {a b : W16} (h : st8 a = st8 b) : a = b := by
  apply xor_none
  apply st8_none
  rw [st8_lin, h, BitVec.xor_self]
theorem step_inj {c d : W16} {b : Int} (h : stepV c b = stepV d b) : c = d := by
  have := st8_inj h
  have h2 := congrArg (· ^^^ byB b) this
  simpa [BitVec.xor_assoc] using h2
theorem sum_inj : ∀ (l : List Int) {c d : W16}, sumV c l = sumV d l → c = d
  | [], _, _, h => h
  | b :: l, c, d, h => step_inj (sum_inj l (c := stepV c b) (d := stepV d b) h)
/-- No byte but 0 leaves the lower half as it was. -/
theorem low_turned : ∀ x : Fin 256, x.val ≠ 0 → (st8 (BitVec.ofNat 16 (x.val * 256))).toNat % 256 ≠ 0 := by decide +kernel
theorem small_up : ∀ y : Fin 256, st8 (BitVec.ofNat 16 y.val) = BitVec.ofNat 16 (y.val * 256) := by decide +kernel
theorem byB_zero {y : Nat} (hy : y < 256) (h : st8 (BitVec.ofNat 16 (0 * 256)) = BitVec.ofNat 16 (y * 256)) : y = 0 := by
  have h0 : st8 (BitVec.ofNat 16 (0 * 256)) = 0#16 := by decide +kernel
  rw [h0] at h
  have h7 := congrArg BitVec.toNat h
  simp only [BitVec.toNat_ofNat] at h7
  omega
theorem byB_xor {a b : Int} (ha : 0 ≤ a ∧ a ≤ 255) (hb : 0 ≤ b ∧ b ≤ 255) : byB a ^^^ byB b = BitVec.ofNat 16 ((a.toNat ^^^ b.toNat) * 256) ∧ a.toNat ^^^ b.toNat < 256 := by
  have hx : a.toNat ^^^ b.toNat < 2 ^ 8 := Nat.xor_lt_two_pow (by omega) (by omega)
  refine ⟨?_, by omega⟩
  unfold byB
  rw [← BitVec.ofNat_xor]
  congr 1
  rw [show (256 : Nat) = 2 ^ 8 from rfl, ← Nat.shiftLeft_eq, ← Nat.shiftLeft_eq, ← Nat.shiftLeft_eq, Nat.shiftLeft_xor_distrib]
/-- Two bytes side by side turn the check, if they are turned. -/
theorem two_inj {c : W16} {a b a' b' : Int} (ha : 0 ≤ a ∧ a ≤ 255) (hb : 0 ≤ b ∧ b ≤ 255) (ha' : 0 ≤ a' ∧ a' ≤ 255) (hb' : 0 ≤ b' ∧ b' ≤ 255) (h : stepV (stepV c a) b = stepV (stepV c a') b') : a = a' ∧ b = b' := by
  have h1 := st8_inj h
  obtain ⟨e1, l1⟩ := byB_xor ha ha'
  obtain ⟨e2, l2⟩ := byB_xor hb hb'
  have h2 : st8 (byB a ^^^ byB a') = byB b ^^^ byB b' := by
    have h3 : stepV c a ^^^ stepV c a' = byB b ^^^ byB b' := by
      have h4 := congrArg (fun z => (z ^^^ byB b) ^^^ stepV c a') h1
      have e5 : (stepV c a ^^^ byB b ^^^ byB b) ^^^ stepV c a' = stepV c a ^^^ stepV c a' := by simp [BitVec.xor_assoc]
      have e6 : (stepV c a' ^^^ byB b' ^^^ byB b) ^^^ stepV c a' = byB b ^^^ byB b' := by
        rw [BitVec.xor_assoc (stepV c a'), BitVec.xor_comm (stepV c a'), BitVec.xor_assoc, BitVec.xor_self, BitVec.xor_zero, BitVec.xor_comm]
      exact e5.symm.trans (h4.trans e6)
    rw [← h3]
    unfold stepV
    have e7 : (c ^^^ byB a) ^^^ (c ^^^ byB a') = byB a ^^^ byB a' := by
      rw [BitVec.xor_comm c, BitVec.xor_assoc, ← BitVec.xor_assoc c c, BitVec.xor_self, BitVec.zero_xor]
    rw [← st8_lin, e7]
  rw [e1, e2] at h2
  have hz : a.toNat ^^^ a'.toNat = 0 := by
    rcases Nat.eq_zero_or_pos (a.toNat ^^^ a'.toNat) with h0 | h0
    · exact h0
    · exfalso
      have h5 := low_turned ⟨a.toNat ^^^ a'.toNat, l1⟩ (by show a.toNat ^^^ a'.toNat ≠ 0; omega)
      simp only at h5
      rw [h2, BitVec.toNat_ofNat] at h5
      generalize b.toNat ^^^ b'.toNat = z at *
      omega
  rw [hz] at h2
  have hz2 := byB_zero l2 h2
  have q1 := nat_xor_none hz
  have q2 := nat_xor_none hz2
  omega
theorem one_inj {c : W16} {a a' : Int} (ha : 0 ≤ a ∧ a ≤ 255) (ha' : 0 ≤ a' ∧ a' ≤ 255) (h : stepV c a = stepV c a') : a = a' :=
  (two_inj (b := 0) (b' := 0) ha (by omega) ha' (by omega) (by rw [h])).1
/-- The check's own two bytes. -/
def hiC (c : W16) : Int := (c.toNat / 256 : Nat)
def loC (c : W16) : Int := (c.toNat % 256 : Nat)
theorem hiC_bd (c : W16) : 0 ≤ hiC c ∧ hiC c ≤ 255 := by have := c.isLt; unfold hiC; omega
theorem loC_bd (c : W16) : 0 ≤ loC c ∧ loC c ≤ 255 := by unfold loC; omega
theorem low_part (n : Nat) : n ^^^ (n / 256 * 256) = n % 256 := by
  rw [show (256 : Nat) = 2 ^ 8 from rfl]
  apply Nat.eq_of_testBit_eq
  intro i
  rw [Nat.testBit_xor, Nat.testBit_mul_two_pow, Nat.testBit_mod_two_pow, Nat.testBit_div_two_pow]
  by_cases h : i < 8
  · simp [h, show ¬ 8 ≤ i by omega]
  · simp [h, show 8 ≤ i by omega, show i - 8 + 8 = i by omega]
theorem step_hi (c : W16) : stepV c (hiC c) = byB (loC c) := by
  unfold stepV
  have e : c ^^^ byB (hiC c) = BitVec.ofNat 16 (c.toNat % 256) := by
    apply BitVec.eq_of_toNat_eq
    have hl := c.isLt
    unfold byB hiC
    rw [BitVec.toNat_xor, BitVec.toNat_ofNat, BitVec.toNat_ofNat]
    rw [show ((((c.toNat / 256 : Nat) : Int)).toNat * 256) % 2 ^ 16 = c.toNat / 256 * 256 by simp; omega, low_part]
    omega
  rw [e]
  have := small_up ⟨c.toNat % 256, by omega⟩
  simp only at this
  rw [this]
  unfold byB loC
  rw [Int.toNat_natCast]
theorem sum_check (c : W16) : stepV (stepV c (hiC c)) (loC c) = 0#16 := by
  rw [step_hi]
  unfold stepV
  rw [BitVec.xor_self]
  decide +kernel
/-- Checked bytes are such whose check is 0. -/
theorem check_iff {c : W16} {h l : Int} (hh : 0 ≤ h ∧ h ≤ 255) (hl : 0 ≤ l ∧ l ≤ 255) : h * 256 + l = (c.toNat : Int) ↔ stepV (stepV c h) l = 0#16 := by
  constructor
  · intro e
    have e1 : h = hiC c := by unfold hiC; omega
    have e2 : l = loC c := by unfold loC; omega
    rw [e1, e2, sum_check]
  · intro e
    obtain ⟨e1, e2⟩ := two_inj hh hl (hiC_bd c) (loC_bd c) (e.trans (sum_check c).symm)
    rw [e1, e2]
    unfold hiC loC
    omega
def ofV (l : List Int) : W16 := sumV 65535#16 l
def sealF (l : List Int) : List Int := l ++ [hiC (ofV l), loC (ofV l)]
/-- Is it checked? -/
def goodB (l : List Int) : Bool := decide (2 ≤ l.length) && (ofV l == 0#16)
def takeE (l : List Int) : Int := if l.length < 2 then 3 else if ofV l = 0#16 then 0 else 4
def takeF (l : List Int) : List Int := if goodB l = true then l.take (l.length - 2) else []
theorem put_zero (l : List Int) : ofV (sealF l) = 0#16 := by
  unfold sealF ofV
  rw [sumV_append]
  exact sum_check _
theorem put_len (l : List Int) : (sealF l).length = l.length + 2 := by simp [sealF]
theorem put_ok {l : List Int} (h : bytOk l) : bytOk (sealF l) := by
  refine h.append fun x hx => ?_
  simp at hx
  rcases hx with rfl | rfl
  · exact hiC_bd _
  · exact loC_bd _
theorem good_put (l : List Int) : goodB (sealF l) = true ∧ takeE (sealF l) = 0 ∧ takeF (sealF l) = l := by
  have h1 := put_zero l
  have h2 := put_len l
  have hg : goodB (sealF l) = true := by unfold goodB; rw [h1, h2]; simp
  refine ⟨hg, by unfold takeE; rw [if_neg (by omega), if_pos h1], ?_⟩
  unfold takeF
  rw [if_pos hg, h2]
  simp [sealF]
theorem goodB_iff (l : List Int) : goodB l = (takeE l == 0) := by
  unfold goodB takeE
  by_cases h : l.length < 2
  · rw [if_pos h]; simp; omega
  · rw [if_neg h]
    by_cases h2 : ofV l = 0#16
    · rw [if_pos h2, h2]; simp; omega
    · rw [if_neg h2]; simp [h2]
/-- What is told of the last two. -/
theorem last_two {l : List Int} (h : 2 ≤ l.length) (ok : bytOk l) : (l[l.length - 2] * 256 + l[l.length - 1] = ((ofV (l.take (l.length - 2))).toNat : Int)) ↔ ofV l = 0#16 := by
  have e : l = l.take (l.length - 2) ++ [l[l.length - 2], l[l.length - 1]] := by
    conv => lhs; rw [← List.take_append_drop (l.length - 2) l]
    congr 1
    rw [List.drop_eq_getElem_cons (by omega)]
    congr 1
    rw [show l.length - 2 + 1 = l.length - 1 by omega, List.drop_eq_getElem_cons (by omega), show l.length - 1 + 1 = l.length by omega, List.drop_length]
  have h2 : ofV l = stepV (stepV (ofV (l.take (l.length - 2))) l[l.length - 2]) l[l.length - 1] := by
    unfold ofV
    conv => lhs; rw [e]
    rw [sumV_append]; rfl
  rw [h2]
  exact check_iff (ok _ (List.getElem_mem _)) (ok _ (List.getElem_mem _))
theorem i64_xor (a b : Nat) (ha : a < 4294967296) (hb : b < 4294967296) : bits .xor .i64 (a : Int) (b : Int) = ((a ^^^ b : Nat) : Int) := by
  have hx : a ^^^ b < 2 ^ 32 := Nat.xor_lt_two_pow (by omega) (by omega)
  show IntKind.i64.wrap ((BitVec.ofInt 64 (a : Int) ^^^ BitVec.ofInt 64 (b : Int)).toNat : Int) = _
  rw [BitVec.toNat_xor, ofInt_u64 a (by omega), ofInt_u64 b (by omega)]
  exact IntWalk.i64_in _ (by omega)
def iterB : Nat → W16 → W16
  | 0, d => d
  | m + 1, d => stB (iterB m d)
theorem iter8 (d : W16) : iterB 8 d = st8 d := rfl
end Go.Proofs.Ythjekbbldejlpaa
/- Words of layer 9: records' bytes. No program. -/
set_option linter.unusedVariables false
set_option linter.unusedSimpArgs false
namespace Go.Proofs.Ythjekbbldejlpaa
open Go Go.RowKit
def num9 (l : List Int) : Int := l.foldl (fun n c => n * 256 + c) 0
theorem num9_snoc (l : List Int) (c : Int) : num9 (l ++ [c]) = num9 l * 256 + c := by simp [num9]
theorem num9_take {l : List Int} {k : Nat} (h : k < l.length) : num9 (l.take (k + 1)) = num9 (l.take k) * 256 + l[k] := by rw [take_succ_get l k h, num9_snoc]
theorem num9_bd {l : List Int} (ok : bytOk l) : ∀ k, k ≤ l.length → 0 ≤ num9 (l.take k) ∧ num9 (l.take k) < 256 ^ k
  | 0, _ => by simp [num9]
  | k + 1, h => by
    obtain ⟨h0, h1⟩ := num9_bd ok k (by omega)
    obtain ⟨b0, b1⟩ := ok l[k] (List.getElem_mem _)
    rw [num9_take (by omega), Int.pow_succ]
    omega
def digs4 (n : Int) : List Int := [n / 16777216 % 256, n / 65536 % 256, n / 256 % 256, n % 256]
def digs3 (n : Int) : List Int := [n / 65536 % 256, n / 256 % 256, n % 256]
theorem digs4_ok (n : Int) : bytOk (digs4 n) := by
  intro x hx
  simp only [digs4, List.mem_cons, List.not_mem_nil, or_false] at hx
  rcases hx with rfl | rfl | rfl | rfl <;> omega
theorem digs3_ok (n : Int) : bytOk (digs3 n) := by
  intro x hx
  simp only [digs3, List.mem_cons, List.not_mem_nil, or_false] at hx
  rcases hx with rfl | rfl | rfl <;> omega
theorem num_digs4 {n : Int} (h0 : 0 ≤ n) (h1 : n ≤ 4294967295) : num9 (digs4 n) = n := by simp only [num9, digs4, List.foldl]; omega
theorem num_digs3 {n : Int} (h0 : 0 ≤ n) (h1 : n ≤ 16777215) : num9 (digs3 n) = n := by simp only [num9, digs3, List.foldl]; omega
/-- What is checked of a record. -/
def headF (ver : Int) (B : List Int) : List Int := digs4 ver ++ digs3 B.length ++ B
def recF (ver : Int) (B : List Int) : List Int := sealF (headF ver B)
def wr9 (ver : Int) (B : List Int) : Bool := decide (1 ≤ ver) && decide (ver ≤ 1073741824) && decide (B.length ≤ 65536)
theorem headF_len (ver : Int) (B : List Int) : (headF ver B).length = B.length + 7 := by simp [headF, digs4, digs3]
theorem headF_ok {ver : Int} {B : List Int} (ok : bytOk B) : bytOk (headF ver B) := ((digs4_ok _).append (digs3_ok _)).append ok
theorem recF_len (ver : Int) (B : List Int) : (recF ver B).length = B.length + 9 := by unfold recF; rw [put_len, headF_len]
theorem recF_ok {ver : Int} {B : List Int} (ok : bytOk B) : bytOk (recF ver B) := put_ok (headF_ok ok)
/-- What is read of what was checked: why there is none. -/
def ownE (o : List Int) : Int := if o.length < 7 then 3 else if num9 (o.take 4) < 1 ∨ 1073741824 < num9 (o.take 4) ∨ 65536 < num9 ((o.drop 4).take 3) ∨ num9 ((o.drop 4).take 3) ≠ o.length - 7 then 2 else 0
def readE (b : List Int) : Int := if takeE b ≠ 0 then takeE b else ownE (takeF b)
def readV (b : List Int) : Int := if readE b = 0 then num9 ((takeF b).take 4) else 0
def readB (b : List Int) : List Int := if readE b = 0 then (takeF b).drop 7 else []
theorem read_rec {ver : Int} {B : List Int} (h : wr9 ver B = true) : readE (recF ver B) = 0 ∧ readV (recF ver B) = ver ∧ readB (recF ver B) = B := by
  simp only [wr9, Bool.and_eq_true, decide_eq_true_eq] at h
  obtain ⟨⟨h1, h2⟩, h3⟩ := h
  obtain ⟨_, g2, g3⟩ := good_put (headF ver B)
  have e4 : (headF ver B).take 4 = digs4 ver := by simp [headF, digs4]
  have e3 : ((headF ver B).drop 4).take 3 = digs3 B.length := by simp [headF, digs4, digs3]
  have e7 : (headF ver B).drop 7 = B := by simp [headF, digs4, digs3]
  have hl := headF_len ver B
  have n4 := num_digs4 (n := ver) (by omega) (by omega)
  have n3 := num_digs3 (n := (B.length : Int)) (by omega) (by omega)
  have e0 : readE (recF ver B) = 0 := by
    unfold readE recF
    rw [g2, g3, if_neg (by simp)]
    unfold ownE
    rw [if_neg (by omega), e4, e3, n4, n3, hl, if_neg]
    omega
  refine ⟨e0, ?_, ?_⟩
  · unfold readV; rw [if_pos e0]; unfold recF; rw [g3, e4, n4]
  · unfold readB; rw [if_pos e0]; unfold recF; rw [g3, e7]
theorem readV_bd (b : List Int) : 0 ≤ readV b ∧ readV b ≤ 1073741824 := by
  unfold readV
  by_cases h : readE b = 0
  · rw [if_pos h]
    unfold readE at h
    by_cases h2 : takeE b = 0
    · rw [if_neg (by simp [h2])] at h
      unfold ownE at h
      by_cases c1 : (takeF b).length < 7
      · rw [if_pos c1] at h; exact absurd h (by decide)
      · rw [if_neg c1] at h
        by_cases c2 : num9 ((takeF b).take 4) < 1 ∨ 1073741824 < num9 ((takeF b).take 4) ∨ 65536 < num9 (((takeF b).drop 4).take 3) ∨ num9 (((takeF b).drop 4).take 3) ≠ (takeF b).length - 7
        · rw [if_pos c2] at h; exact absurd h (by decide)
        · omega
    · rw [if_pos h2] at h; exact absurd h h2
  · rw [if_neg h]; decide
theorem readV_pos {b : List Int} (h : readE b = 0) : 1 ≤ readV b := by
  unfold readV; rw [if_pos h]
  unfold readE at h
  by_cases h2 : takeE b = 0
  · rw [if_neg (by simp [h2])] at h
    unfold ownE at h
    by_cases c1 : (takeF b).length < 7
    · rw [if_pos c1] at h; exact absurd h (by decide)
    · rw [if_neg c1] at h
      by_cases c2 : num9 ((takeF b).take 4) < 1 ∨ 1073741824 < num9 ((takeF b).take 4) ∨ 65536 < num9 (((takeF b).drop 4).take 3) ∨ num9 (((takeF b).drop 4).take 3) ≠ (takeF b).length - 7
      · rw [if_pos c2] at h; exact absurd h (by decide)
      · omega
  · rw [if_pos h2] at h; exact absurd h h2
end Go.Proofs.Ythjekbbldejlpaa
