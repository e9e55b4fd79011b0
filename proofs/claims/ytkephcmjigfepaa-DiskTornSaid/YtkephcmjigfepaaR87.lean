/- Contracts of layer 8's reference (disk), over its state. -/
import Derived.Test.YtkephcmjigfepaaK84
set_option linter.unusedVariables false
set_option linter.unusedSimpArgs false
namespace Go.Proofs.Ytkephcmjigfepaa
open Go.ChangeShapes Go.WideShapes Go.ChangeAt Go.RowKit
theorem st_i64 {d : St} {n m : Nat} (ok : StOk d n m) : i64 d.fails := by have := ok.fails; constructor <;> omega
theorem rG_put (v : Value) (d : St) (k : Int) (vb : Value) (B : List Int) (R : Value → List Int → Prop) [GoodR R] (w : World) {n m : Nat} (hd : DAtR R w v d) (ok : StOk d n m) (hn : n ≤ 40000) (hm : m ≤ 100000000) (hk : i64 k) (hb : R vb B) (hB : B.length ≤ 1000000) :
    Calls Try.prog 24 #[v, .int .i64 k, vb] w fun e w' => ∃ v', e = .returned (.tuple #[v', .int .i64 (putSt d k B).2]) ∧ DAtR R w' v' (putSt d k B).1 ∧ Below w.heap.size w w' := by
  obtain ⟨vs, vl, rs, rl, rfl, h1, h2, h3, h4⟩ := hd
  obtain ⟨pb, cb, rfl, _⟩ := GoodR.form hb
  have l1 := h3.len
  have l2 := h4.len
  have hl := ok.len
  have hT := (h4.now h3).lay (k := k) hb
  have hs := hT.sum
  have hle : sumB (layF d.all (k, B)) ≤ 1000000000000 := by
    have a := layF_sum d.all (k, B)
    have b := nowF_sum d.under d.safe
    have c := ok.sum
    unfold St.all at *
    simp only [] at a
    omega
  refine (r8_put d.room d.fails d.wait k vs vl rs rl pb B.length cb w (st_i64 ok) hk h1 h2 (h3.ok ok.rs) (h4.ok ok.ru) (by omega) (by omega) (by rw [hs]; exact hle)).mono ?_
  rintro e w' ⟨vl', rfl, hr, hw⟩
  have e1 : (putF lenR d.room d.fails d.wait rs rl (k, .slice pb B.length cb)).2 = (putSt d k B).2 := by
    unfold putF putSt St.falls
    rw [hs]
    split
    · rfl
    · unfold St.all; split <;> rfl
  refine ⟨_, by rw [e1], ?_, hw⟩
  unfold putF at hr
  rw [hs] at hr
  unfold putSt St.falls
  by_cases c1 : (askF d.fails d.wait).2 = true
  · rw [if_pos c1] at hr
    rw [if_pos c1]
    exact ⟨vs, vl', rs, rl, rfl, h1.keep hw, hr, h3, h4⟩
  · rw [if_neg c1] at hr
    rw [if_neg c1]
    unfold St.all
    by_cases c2 : d.room < sumB (layF (nowF d.safe d.under) (k, B))
    · rw [if_pos c2] at hr
      rw [if_pos c2]
      exact ⟨vs, vl', rs, rl, rfl, h1.keep hw, hr, h3, h4⟩
    · rw [if_neg c2] at hr
      rw [if_neg c2]
      exact ⟨vs, vl', rs, _, rfl, h1.keep hw, hr, h3, rel_append h4 (rel_one (hb))⟩
theorem rG_sync (v : Value) (d : St) (R : Value → List Int → Prop) [GoodR R] (w : World) {n m : Nat} (hd : DAtR R w v d) (ok : StOk d n m) (hn : n ≤ 40000) :
    Calls Try.prog 25 #[v] w fun e w' => ∃ v', e = .returned (.tuple #[v', .int .i64 (syncSt d).2]) ∧ DAtR R w' v' (syncSt d).1 ∧ Below w.heap.size w w' := by
  obtain ⟨vs, vl, rs, rl, rfl, h1, h2, h3, h4⟩ := hd
  have l1 := h3.len
  have l2 := h4.len
  have hl := ok.len
  refine (r8_sync d.room d.fails d.wait vs vl rs rl w (st_i64 ok) h1 h2 (h3.ok ok.rs) (h4.ok ok.ru) (by omega) (by omega)).mono ?_
  rintro e w' ⟨vs', vl', rfl, hs, hl, hw⟩
  by_cases c : d.falls = true
  · have e1 : syncSt d = (d.asked, 9) := if_pos c
    have c1 : (askF d.fails d.wait).2 = true := c
    rw [if_pos c1] at hs hl
    rw [e1]
    exact ⟨_, by rw [if_pos c1]; rfl, ⟨vs', vl', rs, rl, rfl, hs, hl, h3, h4⟩, hw⟩
  · have e1 : syncSt d = ({ d.asked with safe := d.all, under := [] }, 0) := if_neg c
    have c1 : ¬ (askF d.fails d.wait).2 = true := c
    rw [if_neg c1] at hs hl
    rw [e1]
    exact ⟨_, by rw [if_neg c1]; rfl, ⟨vs', vl', _, _, rfl, hs, hl, h4.now h3, .nil⟩, hw⟩
theorem rG_fail (v : Value) (d : St) (k : Int) (hk : i64 k) (R : Value → List Int → Prop) [GoodR R] (w : World) (hd : DAtR R w v d) :
    Calls Try.prog 27 #[v, .int .i64 k] w fun e w' => ∃ v', e = .returned v' ∧ DAtR R w' v' (failSt d k) ∧ Below w.heap.size w w' := by
  obtain ⟨vs, vl, rs, rl, rfl, h1, h2, h3, h4⟩ := hd
  obtain ⟨p, c, rfl, _⟩ := h1.form
  obtain ⟨q, e, rfl, _⟩ := h2.form
  refine (r8_fail d.room d.fails d.wait k p q _ c _ e w hk).mono ?_
  rintro e w' ⟨rfl, hw⟩
  exact ⟨_, rfl, ⟨_, _, rs, rl, rfl, h1.keep hw, h2.keep hw, h3, h4⟩, hw⟩
theorem rG_crash (v : Value) (d : St) (k : Int) (hk : i64 k) (R : Value → List Int → Prop) [GoodR R] (w : World) {n m : Nat} (hd : DAtR R w v d) (ok : StOk d n m) (hn : n ≤ 40000) (hm : m ≤ 100000000) :
    Calls Try.prog 26 #[v, .int .i64 k] w fun e w' => ∃ v', e = .returned (.tuple #[v', .int .i64 (crashSt d k).2]) ∧ DAtR R w' v' (crashSt d k).1 ∧ Below w.heap.size w w' := by
  obtain ⟨vs, vl, rs, rl, rfl, h1, h2, h3, h4⟩ := hd
  have l1 := h3.len
  have l2 := h4.len
  have hl := ok.len
  have hs := h4.sum
  have hsum := ok.sum
  refine (r8_crash d.room d.fails d.wait k vs vl rs rl w hk h1 h2 (h3.ok ok.rs) (h4.ok ok.ru) (by omega) (by omega) (by omega) h4.cap).mono ?_
  rintro e w' ⟨vs', rfl, hr, hw⟩
  rw [hs] at hr ⊢
  exact ⟨_, rfl, ⟨vs', _, _, [], rfl, hr, .inl ⟨⟨_, _, rfl⟩, rfl⟩, h4.crash _ h3, .nil⟩, hw⟩
theorem rG_new (room : Int) (R : Value → List Int → Prop) [GoodR R] (w : World) :
    Calls Try.prog 11 #[.int .i64 room] w fun e w' => ∃ v', e = .returned v' ∧ DAtR R w' v' (newSt room) ∧ Below w.heap.size w w' := by
  refine (r8_new room w).mono ?_
  rintro e w' ⟨rfl, hw⟩
  exact ⟨_, rfl, ⟨_, _, [], [], rfl, .inl ⟨⟨_, _, rfl⟩, rfl⟩, .inl ⟨⟨_, _, rfl⟩, rfl⟩, .nil, .nil⟩, hw⟩
theorem rG_get (v : Value) (d : St) (k : Int) (R : Value → List Int → Prop) [GoodR R] (w : World) {n m : Nat} (hd : DAtR R w v d) (ok : StOk d n m) (hn : n ≤ 40000) :
    Calls Try.prog 28 #[v, .int .i64 k] w fun e w' => ∃ vb, e = .returned (.tuple #[vb, .bool (getSt d k).2]) ∧ R vb (getSt d k).1 ∧ Below w.heap.size w w' := by
  obtain ⟨vs, vl, rs, rl, rfl, h1, h2, h3, h4⟩ := hd
  have l1 := h3.len
  have l2 := h4.len
  have hl := ok.len
  refine (r8_get d.room d.fails d.wait vs vl rs rl k w h1 h2 (h3.ok ok.rs) (h4.ok ok.ru) (by omega) (by omega)).mono ?_
  rintro e w' ⟨rfl, hw⟩
  unfold getSt St.all
  rcases (h4.now h3).get (k := k) with ⟨e1, e2⟩ | ⟨x, B, e1, e2, hb⟩
  · rw [e1, e2]
    exact ⟨_, rfl, GoodR.nil, hw⟩
  · rw [e1, e2]
    exact ⟨_, rfl, hb, hw⟩
/-- All blobs as they were put last, of both. -/
theorem rG_now (v : Value) (d : St) (R : Value → List Int → Prop) [GoodR R] (w : World) {n m : Nat} (hd : DAtR R w v d) (ok : StOk d n m) (hn : n ≤ 40000) :
    Calls Try.prog 29 #[v] w fun e w' => ∃ v' rs, e = .returned v' ∧ RawAt w' v' rs ∧ RelG R rs d.all ∧ Below w.heap.size w w' := by
  obtain ⟨vs, vl, rs, rl, rfl, h1, h2, h3, h4⟩ := hd
  have l1 := h3.len
  have l2 := h4.len
  have hl := ok.len
  refine (r8_now d.room d.fails d.wait vs vl rs rl w h1 h2 (h3.ok ok.rs) (h4.ok ok.ru) (by omega) (by omega)).mono ?_
  rintro e w' ⟨v', rfl, hr, _, hw⟩
  exact ⟨v', _, rfl, hr, h4.now h3, hw⟩
theorem rG_len (v : Value) (rs : List Raw) (bs : Blobs) (R : Value → List Int → Prop) [GoodR R] (w : World) (h : RawAt w v rs) (hr : RelG R rs bs) (hk : keysOk bs) (hn : bs.length ≤ 100000) (hs : sumB bs ≤ 1000000000000) :
    Calls Try.prog 31 #[v] w fun e w' => e = .returned (.int .i64 (sumB bs)) ∧ Below w.heap.size w w' := by
  have e := hr.sum
  have h2 := r8_len v rs w h (hr.ok hk) (by have := hr.len; omega) (by omega)
  rwa [e] at h2
theorem rA_put (v : Value) (d : St) (k : Int) (vb : Value) (B : List Int) (w0 w : World) {n m : Nat} (hd : DAt w0 w v d) (ok : StOk d n m) (hn : n ≤ 40000) (hm : m ≤ 100000000) (hk : i64 k) (hb : BytsAt w0 vb B) (hB : B.length ≤ 1000000) :
    Calls Try.prog 24 #[v, .int .i64 k, vb] w fun e w' => ∃ v', e = .returned (.tuple #[v', .int .i64 (putSt d k B).2]) ∧ DAt w0 w' v' (putSt d k B).1 ∧ Below w.heap.size w w' := rG_put v d k vb B (BytsAt w0) w hd ok hn hm hk hb hB
theorem rA_sync (v : Value) (d : St) (w0 w : World) {n m : Nat} (hd : DAt w0 w v d) (ok : StOk d n m) (hn : n ≤ 40000) :
    Calls Try.prog 25 #[v] w fun e w' => ∃ v', e = .returned (.tuple #[v', .int .i64 (syncSt d).2]) ∧ DAt w0 w' v' (syncSt d).1 ∧ Below w.heap.size w w' := rG_sync v d (BytsAt w0) w hd ok hn
theorem rA_fail (v : Value) (d : St) (k : Int) (hk : i64 k) (w0 w : World) (hd : DAt w0 w v d) :
    Calls Try.prog 27 #[v, .int .i64 k] w fun e w' => ∃ v', e = .returned v' ∧ DAt w0 w' v' (failSt d k) ∧ Below w.heap.size w w' := rG_fail v d k hk (BytsAt w0) w hd
theorem rA_crash (v : Value) (d : St) (k : Int) (hk : i64 k) (w0 w : World) {n m : Nat} (hd : DAt w0 w v d) (ok : StOk d n m) (hn : n ≤ 40000) (hm : m ≤ 100000000) :
    Calls Try.prog 26 #[v, .int .i64 k] w fun e w' => ∃ v', e = .returned (.tuple #[v', .int .i64 (crashSt d k).2]) ∧ DAt w0 w' v' (crashSt d k).1 ∧ Below w.heap.size w w' := rG_crash v d k hk (BytsAt w0) w hd ok hn hm
theorem rA_new (room : Int) (w0 w : World) :
    Calls Try.prog 11 #[.int .i64 room] w fun e w' => ∃ v', e = .returned v' ∧ DAt w0 w' v' (newSt room) ∧ Below w.heap.size w w' := rG_new room (BytsAt w0) w
theorem rA_get (v : Value) (d : St) (k : Int) (w0 w : World) {n m : Nat} (hd : DAt w0 w v d) (ok : StOk d n m) (hn : n ≤ 40000) :
    Calls Try.prog 28 #[v, .int .i64 k] w fun e w' => ∃ vb, e = .returned (.tuple #[vb, .bool (getSt d k).2]) ∧ BytsAt w0 vb (getSt d k).1 ∧ Below w.heap.size w w' := rG_get v d k (BytsAt w0) w hd ok hn
theorem rA_now (v : Value) (d : St) (w0 w : World) {n m : Nat} (hd : DAt w0 w v d) (ok : StOk d n m) (hn : n ≤ 40000) :
    Calls Try.prog 29 #[v] w fun e w' => ∃ v' rs, e = .returned v' ∧ RawAt w' v' rs ∧ RelR w0 rs d.all ∧ Below w.heap.size w w' := rG_now v d (BytsAt w0) w hd ok hn
theorem rA_len (v : Value) (rs : List Raw) (bs : Blobs) (w0 w : World) (h : RawAt w v rs) (hr : RelR w0 rs bs) (hk : keysOk bs) (hn : bs.length ≤ 100000) (hs : sumB bs ≤ 1000000000000) :
    Calls Try.prog 31 #[v] w fun e w' => e = .returned (.int .i64 (sumB bs)) ∧ Below w.heap.size w w' := rG_len v rs bs (BytsAt w0) w h hr hk hn hs
end Go.Proofs.Ytkephcmjigfepaa
