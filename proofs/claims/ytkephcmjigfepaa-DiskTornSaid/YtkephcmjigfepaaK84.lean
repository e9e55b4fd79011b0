/- Words of layer 8: a disk's state, and what each deed makes of it. No program. -/
import Derived.Test.YtkephcmjigfepaaK83
import Derived.Test.YtkephcmjigfepaaR86
set_option linter.unusedVariables false
set_option linter.unusedSimpArgs false
namespace Go.Proofs.Ytkephcmjigfepaa
open Go Go.RowKit
structure St where
  room : Int
  fails : Int
  wait : Int
  safe : Blobs
  under : Blobs
def St.all (d : St) : Blobs := nowF d.safe d.under
def St.asked (d : St) : St := { d with fails := (askF d.fails d.wait).1.1, wait := (askF d.fails d.wait).1.2 }
def St.falls (d : St) : Bool := (askF d.fails d.wait).2
def putSt (d : St) (k : Int) (B : List Int) : St × Int :=
  if d.falls = true then (d.asked, 9) else if d.room < sumB (layF d.all (k, B)) then (d.asked, 8) else ({ d.asked with under := d.under ++ [(k, B)] }, 0)
def syncSt (d : St) : St × Int := if d.falls = true then (d.asked, 9) else ({ d.asked with safe := d.all, under := [] }, 0)
def failSt (d : St) (n : Int) : St := { d with fails := (failF n).1, wait := (failF n).2 }
def keptOf (d : St) (keep : Int) : Nat := min keep.toNat (sumB d.under)
def crashSt (d : St) (keep : Int) : St × Int := ({ d with fails := 0, wait := 0, safe := crashGo List.length (fun B k => B.take k) d.safe (keptOf d keep) d.under, under := [] }, (sumB d.under : Int) - (keptOf d keep : Nat))
def getSt (d : St) (k : Int) : List Int × Bool := ((getF d.all k).getD [], (getF d.all k).isSome)
def newSt (room : Int) : St := ⟨min (max room 0) 1048576, 0, 0, [], []⟩
/-- The value reads as that state; the blobs' slices as the relation says. -/
def DAtR (R : Value → List Int → Prop) (w : World) (v : Value) (d : St) : Prop := ∃ vs vl rs rl, v = dV d.room d.fails d.wait vs vl ∧ RawAt w vs rs ∧ RawAt w vl rl ∧ RelG R rs d.safe ∧ RelG R rl d.under
/-- The blobs' bytes as they lay in w0. -/
abbrev DAt (w0 : World) : World → Value → St → Prop := DAtR (BytsAt w0)
theorem DAtR.keep {R : Value → List Int → Prop} {w w' : World} {v : Value} {d : St} (h : DAtR R w v d) (hb : Below w.heap.size w w') : DAtR R w' v d :=
  let ⟨vs, vl, rs, rl, e, h1, h2, h3, h4⟩ := h; ⟨vs, vl, rs, rl, e, h1.keep hb, h2.keep hb, h3, h4⟩
theorem DAtR.map {R R' : Value → List Int → Prop} {w : World} {v : Value} {d : St} (h : DAtR R w v d) (f : ∀ {v : Value} {B : List Int}, R v B → R' v B) : DAtR R' w v d :=
  let ⟨vs, vl, rs, rl, e, h1, h2, h3, h4⟩ := h; ⟨vs, vl, rs, rl, e, h1, h2, h3.map f, h4.map f⟩
theorem DAtR.typed {R : Value → List Int → Prop} {w w' : World} {v : Value} {d : St} (h : DAtR R w v d) (hk : ∀ (b : Nat) (c : Array Value) (f : Nat × Nat), w.heap[b]? = some (.cells c 70 f) → w'.heap[b]? = some (.cells c 70 f)) : DAtR R w' v d :=
  let ⟨vs, vl, rs, rl, e, h1, h2, h3, h4⟩ := h; ⟨vs, vl, rs, rl, e, h1.typed hk, h2.typed hk, h3, h4⟩
theorem DAtR.form {R : Value → List Int → Prop} {w : World} {v : Value} {d : St} (h : DAtR R w v d) : ∃ p n c q m e, v = dV d.room d.fails d.wait (.slice p n c) (.slice q m e) := by
  obtain ⟨vs, vl, rs, rl, rfl, h1, h2, _⟩ := h
  obtain ⟨p, c, rfl, _⟩ := h1.form
  obtain ⟨q, e, rfl, _⟩ := h2.form
  exact ⟨_, _, _, _, _, _, rfl⟩
theorem fold_sum (x : Int × List Int) : ∀ (l : Blobs) (s : Blobs × Bool), sumB (l.foldl (layStep x) s).1 + (if (l.foldl (layStep x) s).2 = true then 0 else x.2.length) ≤ sumB s.1 + (if s.2 = true then 0 else x.2.length) + sumB l
  | [], s => by rw [List.foldl_nil, sumB]; omega
  | y :: l, s => by
    rw [List.foldl_cons]
    refine Nat.le_trans (fold_sum x l _) ?_
    rw [sumB]
    obtain ⟨A, b⟩ := s
    unfold layStep
    by_cases c1 : b = false ∧ x.1 ≤ y.1
    · obtain ⟨rfl, c1⟩ := c1
      simp only [c1, and_self, if_true]
      by_cases c2 : y.1 = x.1
      · simp only [if_pos c2, sumB_append, sumB]; first | omega | (simp; omega) | (simp; done)
      · simp only [if_neg c2, sumB_append, sumB]; first | omega | (simp; omega) | (simp; done)
    · simp only [if_neg c1]
      by_cases c2 : y.1 = x.1
      · simp only [if_pos c2]; omega
      · simp only [if_neg c2, sumB_append, sumB]; omega
theorem layF_sum (l : Blobs) (x : Int × List Int) : sumB (layF l x) ≤ sumB l + x.2.length := by
  have h := fold_sum x l ([], false)
  unfold layF layS
  split
  · rename_i hb; rw [if_pos hb] at h; simp [sumB] at h; omega
  · rename_i hb; rw [if_neg hb] at h; rw [sumB_append]; simp [sumB] at h ⊢; omega
theorem nowF_sum : ∀ (l s : Blobs), sumB (nowF s l) ≤ sumB s + sumB l
  | [], s => by simp [nowF, sumB]
  | x :: l, s => by
    have h1 := nowF_sum l (layF s x)
    have h2 := layF_sum s x
    have e : nowF s (x :: l) = nowF (layF s x) l := rfl
    rw [e, sumB]; omega
theorem crash_sum : ∀ (l s : Blobs) (k : Nat), sumB (crashGo List.length (fun B k => B.take k) s k l) ≤ sumB s + sumB l
  | [], s, k => by simp [crashGo, sumB]
  | (q, B) :: l, s, k => by
    have e : crashGo List.length (fun B k => B.take k) s k ((q, B) :: l) = if B.length ≤ k then crashGo List.length (fun B k => B.take k) (layF s (q, B)) (k - B.length) l else layF s (q, B.take k) := rfl
    rw [e, sumB]
    by_cases c : B.length ≤ k
    · rw [if_pos c]
      have h1 := crash_sum l (layF s (q, B)) (k - B.length)
      have h2 := layF_sum s (q, B)
      simp only [] at h2 ⊢; omega
    · rw [if_neg c]
      have h2 := layF_sum s (q, B.take k)
      simp only [List.length_take] at h2 ⊢; omega
theorem crash_len : ∀ (l s : Blobs) (k : Nat), (crashGo List.length (fun B k => B.take k) s k l).length ≤ s.length + l.length
  | [], s, k => by simp [crashGo]
  | (q, B) :: l, s, k => by
    have e : crashGo List.length (fun B k => B.take k) s k ((q, B) :: l) = if B.length ≤ k then crashGo List.length (fun B k => B.take k) (layF s (q, B)) (k - B.length) l else layF s (q, B.take k) := rfl
    rw [e]
    by_cases c : B.length ≤ k
    · rw [if_pos c]
      have h1 := crash_len l (layF s (q, B)) (k - B.length)
      have h2 := layF_len s (q, B)
      simp only [List.length_cons]; omega
    · rw [if_neg c]
      have h2 := layF_len s (q, B.take k)
      simp only [List.length_cons]; omega
theorem lay_mem {β : Type} {s : List (Int × β)} {x y : Int × β} (h : y ∈ layF s x) : y ∈ s ∨ y = x := layF_mem h
theorem now_mem {β : Type} {y : Int × β} : ∀ {l s : List (Int × β)}, y ∈ nowF s l → y ∈ s ∨ y ∈ l
  | [], s, h => .inl h
  | x :: l, s, h => by
    have h : y ∈ nowF (layF s x) l := h
    rcases now_mem h with h | h
    · rcases layF_mem h with h | rfl
      · exact .inl h
      · exact .inr (List.mem_cons_self ..)
    · exact .inr (List.mem_cons_of_mem _ h)
/-- Whatever holds of each blob, and of its first bytes, holds behind a crash. -/
theorem crash_all {p : Int × List Int → Prop} (hp : ∀ q B k, p (q, B) → p (q, B.take k)) : ∀ {l s : Blobs} {k : Nat}, (∀ x ∈ s, p x) → (∀ x ∈ l, p x) → ∀ x ∈ crashGo List.length (fun B k => B.take k) s k l, p x
  | [], s, k, hs, _, x, h => hs x h
  | (q, B) :: l, s, k, hs, hl, x, h => by
    have e : crashGo List.length (fun B k => B.take k) s k ((q, B) :: l) = if B.length ≤ k then crashGo List.length (fun B k => B.take k) (layF s (q, B)) (k - B.length) l else layF s (q, B.take k) := rfl
    rw [e] at h
    have hq : p (q, B) := hl _ (List.mem_cons_self ..)
    by_cases c : B.length ≤ k
    · rw [if_pos c] at h
      exact crash_all hp (fun y hy => by
        rcases layF_mem hy with hy | rfl
        · exact hs y hy
        · exact hq) (fun y hy => hl y (List.mem_cons_of_mem _ hy)) x h
    · rw [if_neg c] at h
      rcases layF_mem h with h | rfl
      · exact hs x h
      · exact hp q B k hq
/-- Keys that rise. -/
def Srt {β : Type} (l : List (Int × β)) : Prop := l.Pairwise fun x y => x.1 < y.1
def insF {β : Type} : List (Int × β) → Int × β → List (Int × β)
  | [], w => [w]
  | x :: l, w => if w.1 ≤ x.1 then (if x.1 = w.1 then w :: l else w :: x :: l) else x :: insF l w
theorem fold_done {β : Type} (w : Int × β) : ∀ (l A : List (Int × β)), (∀ x ∈ l, x.1 ≠ w.1) → l.foldl (layStep w) (A, true) = (A ++ l, true)
  | [], A, _ => by simp
  | x :: l, A, h => by
    have hx := h x (List.mem_cons_self ..)
    have e : layStep w (A, true) x = (A ++ [x], true) := by
      unfold layStep
      simp [hx]
    rw [List.foldl_cons, e, fold_done w l _ (fun y hy => h y (List.mem_cons_of_mem _ hy))]
    simp
theorem fold_ins {β : Type} (w : Int × β) : ∀ (l A : List (Int × β)), Srt l → (if (l.foldl (layStep w) (A, false)).2 = true then (l.foldl (layStep w) (A, false)).1 else (l.foldl (layStep w) (A, false)).1 ++ [w]) = A ++ insF l w
  | [], A, _ => by simp [insF]
  | x :: l, A, h => by
    obtain ⟨h1, h2⟩ := List.pairwise_cons.1 h
    rw [List.foldl_cons, insF]
    by_cases c : w.1 ≤ x.1
    · have hne : ∀ y ∈ l, y.1 ≠ w.1 := fun y hy => by have := h1 y hy; omega
      by_cases c2 : x.1 = w.1
      · have e : layStep w (A, false) x = (A ++ [w], true) := by
          unfold layStep
          simp [c2]
        rw [e, fold_done w l _ hne, if_pos c, if_pos c2]
        simp
      · have e : layStep w (A, false) x = (A ++ [w] ++ [x], true) := by
          unfold layStep
          simp [c, c2]
        rw [e, fold_done w l _ hne, if_pos c, if_neg c2]
        simp
    · have c2 : x.1 ≠ w.1 := by omega
      have e : layStep w (A, false) x = (A ++ [x], false) := by
        unfold layStep
        simp [c, c2]
      rw [e, if_neg c, fold_ins w l _ h2]
      simp
theorem layF_ins {β : Type} {l : List (Int × β)} (w : Int × β) (h : Srt l) : layF l w = insF l w := by
  have := fold_ins w l [] h
  unfold layF layS
  simpa using this
theorem ins_mem {β : Type} {w y : Int × β} : ∀ {l : List (Int × β)}, y ∈ insF l w → y ∈ l ∨ y = w
  | [], h => .inr (by simpa [insF] using h)
  | x :: l, h => by
    rw [insF] at h
    split at h
    · split at h
      · rcases List.mem_cons.1 h with h | h
        · exact .inr h
        · exact .inl (List.mem_cons_of_mem _ h)
      · rcases List.mem_cons.1 h with h | h
        · exact .inr h
        · exact .inl h
    · rcases List.mem_cons.1 h with h | h
      · exact .inl (h ▸ List.mem_cons_self ..)
      · rcases ins_mem h with h | h
        · exact .inl (List.mem_cons_of_mem _ h)
        · exact .inr h
theorem ins_srt {β : Type} (w : Int × β) : ∀ (l : List (Int × β)), Srt l → Srt (insF l w)
  | [], _ => by simp [insF, Srt]
  | x :: l, h => by
    obtain ⟨h1, h2⟩ := List.pairwise_cons.1 h
    rw [insF]
    split
    · rename_i c
      split
      · rename_i c2
        exact List.pairwise_cons.2 ⟨fun y hy => by have := h1 y hy; omega, h2⟩
      · exact List.pairwise_cons.2 ⟨fun y hy => by
          rcases List.mem_cons.1 hy with rfl | hy
          · omega
          · have := h1 y hy; omega, h⟩
    · rename_i c
      exact List.pairwise_cons.2 ⟨fun y hy => by
        rcases ins_mem hy with hy | rfl
        · exact h1 y hy
        · omega, ins_srt w l h2⟩
theorem Srt.lay {β : Type} {l : List (Int × β)} (h : Srt l) (w : Int × β) : Srt (layF l w) := by rw [layF_ins w h]; exact ins_srt w l h
theorem Srt.now {β : Type} : ∀ {l s : List (Int × β)}, Srt s → Srt (nowF s l)
  | [], s, h => h
  | x :: l, s, h => Srt.now (l := l) (h.lay x)
theorem Srt.crash : ∀ {l s : Blobs} {k : Nat}, Srt s → Srt (crashGo List.length (fun B k => B.take k) s k l)
  | [], s, k, h => h
  | (q, B) :: l, s, k, h => by
    have e : crashGo List.length (fun B k => B.take k) s k ((q, B) :: l) = if B.length ≤ k then crashGo List.length (fun B k => B.take k) (layF s (q, B)) (k - B.length) l else layF s (q, B.take k) := rfl
    rw [e]
    split
    · exact Srt.crash (h.lay _)
    · exact h.lay _
theorem Srt.get {β : Type} {l : List (Int × β)} (h : Srt l) {j : Nat} (hj : j < l.length) : getF l l[j].1 = some l[j].2 :=
  getF_at hj rfl fun i hi => by
    have := List.pairwise_iff_getElem.1 h i j (by omega) hj hi
    omega
/-- A state that n puts of so many bytes may have made. -/
structure StOk (d : St) (n m : Nat) : Prop where
  fails : 0 ≤ d.fails ∧ d.fails ≤ 1048576
  wait : 0 ≤ d.wait ∧ d.wait ≤ 1
  room : i64 d.room
  len : d.safe.length + d.under.length ≤ n
  sum : sumB d.safe + sumB d.under ≤ m
  keyS : ∀ x ∈ d.safe, i64 x.1 ∧ bytOk x.2
  keyU : ∀ x ∈ d.under, i64 x.1 ∧ bytOk x.2
  srt : Srt d.safe
theorem StOk.mono {d : St} {n m n' m' : Nat} (h : StOk d n m) (hn : n ≤ n') (hm : m ≤ m') : StOk d n' m' := ⟨h.fails, h.wait, h.room, Nat.le_trans h.len hn, Nat.le_trans h.sum hm, h.keyS, h.keyU, h.srt⟩
theorem StOk.asked {d : St} {n m : Nat} (h : StOk d n m) : StOk d.asked n m := by
  obtain ⟨h1, h2⟩ := h.fails
  obtain ⟨h3, h4⟩ := h.wait
  refine ⟨?_, ?_, h.room, h.len, h.sum, h.keyS, h.keyU, h.srt⟩
  · unfold St.asked askF; dsimp only; split
    · exact ⟨h1, h2⟩
    · split
      · exact ⟨by simp only []; omega, by simp only []; omega⟩
      · exact ⟨h1, h2⟩
  · unfold St.asked askF; dsimp only; split
    · exact ⟨Int.le_refl _, by show (0 : Int) ≤ 1; decide⟩
    · split
      · exact ⟨h3, h4⟩
      · exact ⟨h3, h4⟩
theorem StOk.allmem {d : St} {n m : Nat} (h : StOk d n m) : ∀ x ∈ d.all, i64 x.1 ∧ bytOk x.2 := fun x hx => by
  rcases now_mem hx with hx | hx
  · exact h.keyS x hx
  · exact h.keyU x hx
theorem all_len (d : St) : d.all.length ≤ d.safe.length + d.under.length := by
  have := nowF_len d.safe d.under d.under.length (Nat.le_refl _)
  rwa [List.take_length] at this
theorem StOk.put {d : St} {n m : Nat} (h : StOk d n m) {k : Int} {B : List Int} (hk : i64 k) (hB : bytOk B) : StOk (putSt d k B).1 (n + 1) (m + B.length) := by
  have ha := h.asked
  unfold putSt
  split
  · exact ha.mono (Nat.le_succ _) (Nat.le_add_right _ _)
  · split
    · exact ha.mono (Nat.le_succ _) (Nat.le_add_right _ _)
    · refine ⟨ha.fails, ha.wait, ha.room, ?_, ?_, ha.keyS, ?_, h.srt⟩
      · have := h.len; simp only [List.length_append, List.length_singleton, St.asked]; omega
      · have := h.sum; simp only [sumB_append, sumB, St.asked]; omega
      · intro x hx
        rcases List.mem_append.1 hx with hx | hx
        · exact h.keyU x hx
        · obtain rfl := List.mem_singleton.1 hx; exact ⟨hk, hB⟩
theorem StOk.sync {d : St} {n m : Nat} (h : StOk d n m) : StOk (syncSt d).1 n m := by
  have ha := h.asked
  unfold syncSt
  split
  · exact ha
  · refine ⟨ha.fails, ha.wait, ha.room, ?_, ?_, fun x hx => h.allmem x hx, fun x hx => (by cases hx), h.srt.now⟩
    · have := all_len d; have := h.len; simp only [List.length_nil, St.asked]; omega
    · have := nowF_sum d.under d.safe; have := h.sum; simp only [sumB, St.asked, St.all]; omega
theorem StOk.fail {d : St} {n m : Nat} (h : StOk d n m) (k : Int) (hk : k ≤ 1048576) : StOk (failSt d k) n m := by
  refine ⟨?_, ?_, h.room, h.len, h.sum, h.keyS, h.keyU, h.srt⟩
  · unfold failSt failF; dsimp only; split
    · dsimp only; split <;> omega
    · dsimp only; omega
  · unfold failSt failF; dsimp only; split
    · exact ⟨by show (0 : Int) ≤ 1; decide, by show (1 : Int) ≤ 1; decide⟩
    · exact ⟨by show (0 : Int) ≤ 0; decide, by show (0 : Int) ≤ 1; decide⟩
theorem StOk.crash {d : St} {n m : Nat} (h : StOk d n m) (k : Int) : StOk (crashSt d k).1 n m := by
  refine ⟨(by show (0 : Int) ≤ 0 ∧ (0 : Int) ≤ 1048576; decide), (by show (0 : Int) ≤ 0 ∧ (0 : Int) ≤ 1; decide), h.room, ?_, ?_, ?_, fun x hx => (by cases hx), h.srt.crash⟩
  · have := crash_len d.under d.safe (keptOf d k); have := h.len; simp only [crashSt, List.length_nil]; omega
  · have := crash_sum d.under d.safe (keptOf d k); have := h.sum; simp only [crashSt, sumB]; omega
  · exact crash_all (p := fun x => i64 x.1 ∧ bytOk x.2) (fun q B j hq => ⟨hq.1, hq.2.take j⟩) h.keyS h.keyU
theorem StOk.new {room : Int} (h : i64 room) : StOk (newSt room) 0 0 := by
  refine ⟨(by show (0 : Int) ≤ 0 ∧ (0 : Int) ≤ 1048576; decide), (by show (0 : Int) ≤ 0 ∧ (0 : Int) ≤ 1; decide), ?_, Nat.le_refl _, Nat.le_refl _, fun x hx => (by cases hx), fun x hx => (by cases hx), List.Pairwise.nil⟩
  unfold newSt
  constructor <;> (dsimp only; omega)
theorem StOk.rs {d : St} {n m : Nat} (h : StOk d n m) : keysOk d.safe := fun x hx => (h.keyS x hx).1
theorem StOk.ru {d : St} {n m : Nat} (h : StOk d n m) : keysOk d.under := fun x hx => (h.keyU x hx).1
end Go.Proofs.Ytkephcmjigfepaa
