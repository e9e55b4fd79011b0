/- Texts behind each other. -/
import Derived.Test.YthjekbbldejlpaaZ14
import Derived.Test.YthjekbbldejlpaaZ10
import Derived.Test.YthjekbbldejlpaaZ03
import Derived.Test.YthjekbbldejlpaaZ15
import Derived.Test.YthjekbbldejlpaaZ11
import Derived.Test.YthjekbbldejlpaaRows
import Derived.WalkKit
import Derived.ProofKit
import Derived.OpenShut
import Derived.Carry
import Derived.Deep.Strs
/- The maths of layer 9: records that are saved while nothing fails. No program. -/
set_option linter.unusedVariables false
set_option linter.unusedSimpArgs false
namespace Go.Proofs.Ythjekbbldejlpaa
open Go Go.RowKit
structure Quiet (d : St) : Prop where
  f : d.fails = 0
  w : d.wait = 0
theorem Quiet.asked {d : St} (h : Quiet d) : d.asked = d ∧ d.falls = false := by
  obtain ⟨room, fails, wait, safe, under⟩ := d
  obtain ⟨h1, h2⟩ := h
  simp only at h1 h2
  subst h1 h2
  exact ⟨rfl, rfl⟩
theorem put_quiet {d : St} (h : Quiet d) {q : Int} {X : List Int} (hr : (sumB (layF d.all (q, X)) : Int) ≤ d.room) : putSt d q X = ({ d with under := d.under ++ [(q, X)] }, 0) := by
  obtain ⟨h1, h2⟩ := h.asked
  unfold putSt
  rw [h2, h1, if_neg (by simp), if_neg (by omega)]
theorem sync_quiet {d : St} (h : Quiet d) : syncSt d = ({ d with safe := d.all, under := [] }, 0) := by
  obtain ⟨h1, h2⟩ := h.asked
  unfold syncSt
  rw [h2, h1, if_neg (by simp)]
/-- A disk of which all is safe. -/
def atSt (room : Int) (M : Blobs) : St := ⟨room, 0, 0, M, []⟩
theorem at_quiet (room : Int) (M : Blobs) : Quiet (atSt room M) := ⟨rfl, rfl⟩
theorem put_sync {d : St} (h : Quiet d) {q : Int} {X : List Int} (hr : (sumB (layF d.all (q, X)) : Int) ≤ d.room) : (putSt d q X).2 = 0 ∧ syncSt (putSt d q X).1 = (atSt d.room (layF d.all (q, X)), 0) := by
  rw [put_quiet h hr]
  refine ⟨rfl, ?_⟩
  have e0 : syncSt { d with under := d.under ++ [(q, X)] } = ({ { d with under := d.under ++ [(q, X)] } with safe := ({ d with under := d.under ++ [(q, X)] } : St).all, under := [] }, 0) := sync_quiet ⟨h.f, h.w⟩
  refine Eq.trans e0 ?_
  have e : nowF d.safe (d.under ++ [(q, X)]) = layF d.all (q, X) := nowF_snoc _ _ _
  obtain ⟨room, fails, wait, safe, under⟩ := d
  obtain ⟨h1, h2⟩ := h
  simp only at h1 h2
  subst h1 h2
  unfold atSt St.all
  simp only
  rw [show nowF safe (under ++ [(q, X)]) = layF (nowF safe under) (q, X) from nowF_snoc _ _ _]
theorem save_quiet {d : St} (h : Quiet d) (hs : Srt d.all) {k v : Int} {B : List Int} {s : Bool} (hid : idB k = true) (hh : HasM d.all k v B s) {B' : List Int} (hw : wr9 (v + 1) B' = true) (hr : (sumB d.all : Int) + B'.length + 9 ≤ d.room) :
    saveSt d k B' = (atSt d.room (layF d.all (2 * k + (if s = true then 0 else 1), recF (v + 1) B')), 0) := by
  have e : of9 d k = (2 * k + (if s = true then 1 else 0), v, B) := HasP.of hh k
  have hto : 4 * k + 1 - (2 * k + (if s = true then 1 else 0)) = 2 * k + (if s = true then 0 else 1) := by split <;> omega
  unfold saveSt
  rw [if_pos hid, e]
  simp only
  rw [if_pos hw, hto]
  have h9 := layF_sum d.all (2 * k + (if s = true then 0 else 1), recF (v + 1) B')
  simp only [recF_len] at h9
  obtain ⟨p1, p2⟩ := put_sync h (q := 2 * k + (if s = true then 0 else 1)) (X := recF (v + 1) B') (by omega)
  rw [if_pos p1, p2]
theorem HasM.load {d : St} {k v : Int} {B : List Int} {s : Bool} (hid : idB k = true) (h : HasM d.all k v B s) : loadF d k = (B, v, decide (0 < v)) := by
  have e : of9 d k = (2 * k + (if s = true then 1 else 0), v, B) := HasP.of h k
  unfold loadF
  rw [if_pos hid, e]
theorem at_all (room : Int) (M : Blobs) : (atSt room M).all = M := rfl
theorem load_at {room : Int} {M : Blobs} {k v : Int} {B : List Int} {s : Bool} (hid : idB k = true) (h : HasM M k v B s) : loadF (atSt room M) k = (B, v, decide (0 < v)) := HasM.load (d := atSt room M) hid h
theorem fresh_has {M : Blobs} {k : Int} (h1 : gb M (2 * k) = []) (h2 : gb M (2 * k + 1) = []) : HasM M k 0 [] true := by
  unfold HasM
  rw [h1, h2]
  exact .none (by decide) (by decide)
theorem spoil_quiet {d : St} (hs : Srt d.all) {key at0 x : Int} (h : 0 ≤ at0 ∧ at0 < (gb d.all key).length) (hr : (sumB d.all : Int) ≤ d.room) :
    spoilSt d key at0 x = (atSt d.room (layF d.all (key, spoilB (gb d.all key) at0.toNat x)), true) := by
  unfold spoilSt
  rw [if_pos h]
  have hq : Quiet (failSt d 0) := ⟨rfl, rfl⟩
  have ha : (failSt d 0).all = d.all := rfl
  have h9 : sumB (layF d.all (key, spoilB (gb d.all key) at0.toNat x)) = sumB d.all := by
    rw [layF_ins _ hs]
    have hl : (spoilB (gb d.all key) at0.toNat x).length = (gb d.all key).length := by unfold spoilB; simp
    clear h hr hq ha
    revert hl
    generalize spoilB (gb d.all key) at0.toNat x = X
    intro hl
    have key2 : ∀ {l : Blobs}, Srt l → sumB (insF l (key, X)) + (gb l key).length = sumB l + X.length := fun {l} hsl => by
      induction l with
      | nil => simp [insF, gb, getF, sumB]
      | cons y l ih =>
        obtain ⟨h1, h2⟩ := List.pairwise_cons.1 hsl
        rw [insF]
        unfold gb
        rw [getF]
        by_cases c : key ≤ y.1
        · rw [if_pos c]
          by_cases c2 : y.1 = key
          · rw [if_pos c2, if_pos c2]; simp only [sumB, Option.getD_some]; omega
          · have hn : getF l key = none := getF_none fun i hi => by
              have := h1 l[i] (List.getElem_mem hi)
              omega
            rw [if_neg c2, if_neg c2, hn]; simp only [sumB, Option.getD_none, List.length_nil]; omega
        · have c2 : ¬ y.1 = key := by omega
          rw [if_neg c, if_neg c2]
          have := ih h2
          unfold gb at this
          simp only [sumB]; omega
    have := key2 hs
    omega
  obtain ⟨_, p2⟩ := put_sync hq (q := key) (X := spoilB (gb d.all key) at0.toNat x) (by rw [ha, h9]; exact hr)
  rw [p2]
  rfl
theorem spoil_none {d : St} {key at0 x : Int} (h : ¬ (0 ≤ at0 ∧ at0 < (gb d.all key).length)) : spoilSt d key at0 x = (d, false) := by
  unfold spoilSt; rw [if_neg h]
theorem gb_nil (q : Int) : gb [] q = [] := rfl
theorem wr9_small {v : Int} {B : List Int} (h0 : 1 ≤ v) (h1 : v ≤ 1000) (hB : B.length ≤ 20) : wr9 v B = true := by
  simp only [wr9, Bool.and_eq_true, decide_eq_true_eq]
  omega
/-- The states of StoreSpoils. -/
theorem spoils_states {a b : List Int} (ha : bytOk a) (hb : bytOk b) (la : a.length ≤ 20) (lb : b.length ≤ 20) {k : Nat} (hk : k < 9 + b.length) {x : Int} (hx : 0 ≤ x ∧ x ≤ 255) :
    ∃ d1 d2 d3, saveSt (newSt 1000) 3 a = (d1, 0) ∧ saveSt d1 3 b = (d2, 0) ∧ spoilSt d2 7 k x = (d3, true) ∧ spoilSt d3 7 (9 + b.length) x = (d3, false) ∧ spoilSt d3 8 0 x = (d3, false) ∧
      loadF d3 3 = (if x = 0 then (b, 2, true) else (a, 1, true)) ∧ St9 d1 1 ∧ St9 d2 2 ∧ St9 d3 3 := by
  have n0 : newSt 1000 = atSt 1000 [] := rfl
  have s0 : St9 (newSt 1000) 0 := St9.new (by constructor <;> decide)
  have hid : idB 3 = true := by decide
  have e1 := save_quiet (d := atSt 1000 []) (at_quiet _ _) List.Pairwise.nil (k := 3) hid (fresh_has rfl rfl) (B' := a) (wr9_small (by decide) (by decide) la) (by show (0 : Int) + a.length + 9 ≤ 1000; omega)
  simp only [if_true] at e1
  change saveSt (atSt 1000 []) 3 a = (atSt 1000 (layF [] (2 * 3 + 0, recF (0 + 1) a)), 0) at e1
  have h1 : HasM (layF [] (2 * 3 + 0, recF (0 + 1) a)) 3 (0 + 1) a false := HasM.put (M := []) List.Pairwise.nil (fresh_has rfl rfl) (wr9_small (by decide) (by decide) la)
  have g6 : ∀ q', gb (layF [] (2 * 3 + 0, recF (0 + 1) a)) q' = if (2 * 3 + 0 : Int) = q' then recF (0 + 1) a else [] := fun q' => gb_lay List.Pairwise.nil _ q' _
  have sr1 : Srt (layF [] (2 * 3 + 0, recF (0 + 1) a)) := Srt.lay (l := []) List.Pairwise.nil _
  have sm1 := layF_sum [] (2 * 3 + 0, recF (0 + 1) a)
  simp only [recF_len, sumB] at sm1
  generalize layF [] (2 * 3 + 0, recF (0 + 1) a) = M1 at *
  have e2 := save_quiet (d := atSt 1000 M1) (at_quiet _ _) sr1 (k := 3) hid h1 (B' := b) (wr9_small (by decide) (by decide) lb) (by show (sumB M1 : Int) + b.length + 9 ≤ 1000; omega)
  simp only [Bool.false_eq_true, if_false] at e2
  have h2 : HasM (layF M1 (2 * 3 + 1, recF (0 + 1 + 1) b)) 3 (0 + 1 + 1) b true := HasM.put (s := false) sr1 h1 (wr9_small (by decide) (by decide) lb)
  have g7 : ∀ q', gb (layF M1 (2 * 3 + 1, recF (0 + 1 + 1) b)) q' = if (2 * 3 + 1 : Int) = q' then recF (0 + 1 + 1) b else gb M1 q' := fun q' => gb_lay sr1 _ q' _
  have sr2 : Srt (layF M1 (2 * 3 + 1, recF (0 + 1 + 1) b)) := Srt.lay (l := M1) sr1 _
  have sm2 := layF_sum M1 (2 * 3 + 1, recF (0 + 1 + 1) b)
  simp only [recF_len] at sm2
  change saveSt (atSt 1000 M1) 3 b = (atSt 1000 (layF M1 (2 * 3 + 1, recF (0 + 1 + 1) b)), 0) at e2
  generalize layF M1 (2 * 3 + 1, recF (0 + 1 + 1) b) = M2 at *
  have q7 : gb M2 7 = recF (0 + 1 + 1) b := by rw [g7, if_pos (by decide)]
  have q6 : gb M2 6 = recF (0 + 1) a := by rw [g7, if_neg (by decide), g6, if_pos (by decide)]
  have q8 : gb M2 8 = [] := by rw [g7, if_neg (by decide), g6, if_neg (by decide)]
  have l7 : (gb M2 7).length = b.length + 9 := by rw [q7, recF_len]
  have e3 := spoil_quiet (d := atSt 1000 M2) sr2 (key := 7) (at0 := (k : Int)) (x := x) (by show 0 ≤ (k : Int) ∧ (k : Int) < (gb M2 7).length; omega) (by show (sumB M2 : Int) ≤ 1000; omega)
  rw [Int.toNat_natCast] at e3
  change spoilSt (atSt 1000 M2) 7 (k : Int) x = (atSt 1000 (layF M2 (7, spoilB (gb M2 7) k x)), true) at e3
  have okr : bytOk (gb M2 7) := by rw [q7]; exact recF_ok hb
  have hk7 : k < (gb M2 7).length := by omega
  have hxr := u8_xor (okr _ (List.getElem_mem hk7)) hx
  obtain ⟨t1, t2, t3⟩ := spoilB_ok okr (j := k) hk7 hx
  have g3 : ∀ q', gb (layF M2 (7, spoilB (gb M2 7) k x)) q' = if (7 : Int) = q' then spoilB (gb M2 7) k x else gb M2 q' := fun q' => gb_lay sr2 _ q' _
  refine ⟨atSt 1000 M1, atSt 1000 M2, atSt 1000 (layF M2 (7, spoilB (gb M2 7) k x)), by rw [n0]; exact e1, e2, e3, spoil_none ?_, spoil_none ?_, ?_, ?_, ?_, ?_⟩
  · rw [at_all, g3, if_pos rfl, t2, l7]; omega
  · rw [at_all, g3, if_neg (by decide), q8]; simp
  · by_cases hx0 : x = 0
    · rw [if_pos hx0]
      have hsame : spoilB (gb M2 7) k x = gb M2 7 := by
        rw [t3, hxr.2.2 hx0]
        exact List.set_getElem_self _
      have hh : HasM (layF M2 (7, spoilB (gb M2 7) k x)) 3 2 b true := by
        unfold HasM
        rw [g3, g3, if_neg (by decide), if_pos (by decide), hsame]
        exact h2
      rw [load_at hid hh]
      rfl
    · rw [if_neg hx0]
      have hbad : readE (spoilB (gb M2 7) k x) ≠ 0 := by
        rw [t3]
        have hne : bits .xor .u8 (gb M2 7)[k] x ≠ (gb M2 7)[k] := fun h => hx0 (hxr.2.1 h)
        have hby := hxr.1
        revert hne hby
        generalize bits .xor .u8 (gb M2 7)[k] x = y
        intro hne hby
        have hlt : k < (recF (0 + 1 + 1) b).length := by rw [recF_len]; omega
        have := turned_rec (v := 0 + 1 + 1) hb hlt hby (by
          intro h
          apply hne
          rw [h]
          congr 1
          exact q7.symm)
        rw [q7]
        exact this
      obtain ⟨r0, r1, r2⟩ := read_rec (ver := 0 + 1) (B := a) (wr9_small (by decide) (by decide) la)
      have hh : HasM (layF M2 (7, spoilB (gb M2 7) k x)) 3 1 a false := by
        unfold HasM
        rw [g3, g3, if_neg (by decide), if_pos (by decide), show (2 * 3 : Int) = 6 from rfl, q6]
        have := HasP.fst (a := recF (0 + 1) a) (b := spoilB (gb M2 7) k x) r0 (by rw [r1, readV_none hbad]; decide)
        rw [r1, r2] at this
        exact this
      rw [load_at hid hh]
      rfl
  · have := s0.save 3 ha la
    rw [n0, e1] at this
    exact this
  · have := (s0.save 3 ha la).save 3 hb lb
    rw [n0, e1] at this
    rw [e2] at this
    exact this
  · have := ((s0.save 3 ha la).save 3 hb lb).spoil 7 k hx
    rw [n0, e1] at this
    rw [e2] at this
    rw [e3] at this
    exact this
/-- The states of StoreVersions: so many records of one id. -/
structure VerAt (id : Int) (i : Nat) (B : List Int) (d : St) : Prop where
  ex : ∃ M s, d = atSt 100000 M ∧ Srt M ∧ sumB M ≤ 29 * i ∧ HasM M id i B s
theorem VerAt.new (id : Int) : VerAt id 0 [] (newSt 100000) := ⟨[], true, rfl, List.Pairwise.nil, Nat.le_refl _, fresh_has rfl rfl⟩
theorem VerAt.save {id : Int} {i : Nat} {B : List Int} {d : St} (h : VerAt id i B d) (hid : idB id = true) (hi : i ≤ 20) {B' : List Int} (hB : B'.length ≤ 20) :
    ∃ d', saveSt d id B' = (d', 0) ∧ VerAt id (i + 1) B' d' ∧ loadF d' id = (B', (i : Int) + 1, true) := by
  obtain ⟨M, s, rfl, sr, sm, hh⟩ := h.ex
  have hw : wr9 ((i : Int) + 1) B' = true := wr9_small (by omega) (by omega) hB
  have e1 := save_quiet (d := atSt 100000 M) (at_quiet _ _) sr hid hh hw (by show (sumB M : Int) + B'.length + 9 ≤ 100000; omega)
  change saveSt (atSt 100000 M) id B' = (atSt 100000 (layF M (2 * id + (if s = true then 0 else 1), recF ((i : Int) + 1) B')), 0) at e1
  have h2 := hh.put sr hw
  have sm2 := layF_sum M (2 * id + (if s = true then 0 else 1), recF ((i : Int) + 1) B')
  simp only [recF_len] at sm2
  refine ⟨_, e1, ⟨_, _, rfl, sr.lay _, by omega, h2⟩, ?_⟩
  rw [load_at hid h2]
  simp only [Prod.mk.injEq, decide_eq_true_eq, true_and]
  omega
theorem save_bad {d : St} {k : Int} (h : idB k = false) (B : List Int) : saveSt d k B = (d, 1) := by unfold saveSt; rw [h]; rfl
theorem load_bad {d : St} {k : Int} (h : idB k = false) : loadF d k = ([], 0, false) := by unfold loadF; rw [h]; rfl
theorem save_long {d : St} {k : Int} {B : List Int} (h : 65536 < B.length) : saveSt d k B = (d, 1) := by
  unfold saveSt
  have hw : wr9 ((of9 d k).2.1 + 1) B = false := by
    unfold wr9
    rw [decide_eq_false (p := B.length ≤ 65536) (by omega), Bool.and_false]
  rw [hw]
  split <;> rfl
/-- The states of StoreApart. -/
theorem apart_states {a b : List Int} (ha : bytOk a) (hb : bytOk b) (la : a.length ≤ 20) (lb : b.length ≤ 20) {i k : Int} (hi : 0 ≤ i ∧ i ≤ 99) (hk : 0 ≤ k ∧ k ≤ 99) {at0 : Nat} (h9 : at0 < 9) {x : Int} (hx : 0 ≤ x ∧ x ≤ 255) :
    ∃ d1 d2, saveSt (newSt 1000) i a = (d1, 0) ∧ saveSt d1 k b = (d2, 0) ∧ St9 d1 1 ∧ St9 d2 2 ∧ St9 (spoilSt d2 (2 * k) at0 x).1 3 ∧
      (i = k → loadF d2 i = (b, 2, true)) ∧ (i ≠ k → loadF d2 i = (a, 1, true) ∧ loadF (spoilSt d2 (2 * k) at0 x).1 i = (a, 1, true)) := by
  have n0 : newSt 1000 = atSt 1000 [] := rfl
  have s0 : St9 (newSt 1000) 0 := St9.new (by constructor <;> decide)
  have hidi : idB i = true := (idB_iff i).2 (by omega)
  have hidk : idB k = true := (idB_iff k).2 (by omega)
  have e1 := save_quiet (d := atSt 1000 []) (at_quiet _ _) List.Pairwise.nil (k := i) hidi (fresh_has rfl rfl) (B' := a) (wr9_small (by decide) (by decide) la) (by show (0 : Int) + a.length + 9 ≤ 1000; omega)
  simp only [if_true] at e1
  change saveSt (atSt 1000 []) i a = (atSt 1000 (layF [] (2 * i + 0, recF (0 + 1) a)), 0) at e1
  have h1 : HasM (layF [] (2 * i + 0, recF (0 + 1) a)) i (0 + 1) a false := HasM.put (M := []) List.Pairwise.nil (fresh_has rfl rfl) (wr9_small (by decide) (by decide) la)
  have g6 : ∀ q', gb (layF [] (2 * i + 0, recF (0 + 1) a)) q' = if (2 * i + 0 : Int) = q' then recF (0 + 1) a else [] := fun q' => gb_lay List.Pairwise.nil _ q' _
  have sr1 : Srt (layF [] (2 * i + 0, recF (0 + 1) a)) := Srt.lay (l := []) List.Pairwise.nil _
  have sm1 := layF_sum [] (2 * i + 0, recF (0 + 1) a)
  simp only [recF_len, sumB] at sm1
  generalize layF [] (2 * i + 0, recF (0 + 1) a) = M1 at *
  have t1 : St9 (atSt 1000 M1) 1 := by
    have := s0.save i ha la
    rw [n0, e1] at this
    exact this
  by_cases hik : i = k
  · subst hik
    have e2 := save_quiet (d := atSt 1000 M1) (at_quiet _ _) sr1 (k := i) hidi h1 (B' := b) (wr9_small (by decide) (by decide) lb) (by show (sumB M1 : Int) + b.length + 9 ≤ 1000; omega)
    change saveSt (atSt 1000 M1) i b = (atSt 1000 (layF M1 (2 * i + (if false = true then 0 else 1), recF (0 + 1 + 1) b)), 0) at e2
    have h2 := HasM.put (s := false) sr1 h1 (B' := b) (wr9_small (by decide) (by decide) lb)
    have t2 := t1.save i hb lb
    rw [e2] at t2
    refine ⟨_, _, by rw [n0]; exact e1, e2, t1, t2, t2.spoil _ _ hx, fun _ => ?_, fun h => absurd rfl h⟩
    rw [load_at hidi h2]
    rfl
  · have hf : HasM M1 k 0 [] true := fresh_has (by rw [g6, if_neg (by omega)]) (by rw [g6, if_neg (by omega)])
    have e2 := save_quiet (d := atSt 1000 M1) (at_quiet _ _) sr1 (k := k) hidk hf (B' := b) (wr9_small (by decide) (by decide) lb) (by show (sumB M1 : Int) + b.length + 9 ≤ 1000; omega)
    simp only [if_true] at e2
    change saveSt (atSt 1000 M1) k b = (atSt 1000 (layF M1 (2 * k + 0, recF (0 + 1) b)), 0) at e2
    have h2 : HasM (layF M1 (2 * k + 0, recF (0 + 1) b)) i (0 + 1) a false := h1.other sr1 (by omega) (by omega) _
    have sr2 : Srt (layF M1 (2 * k + 0, recF (0 + 1) b)) := sr1.lay _
    have sm2 := layF_sum M1 (2 * k + 0, recF (0 + 1) b)
    simp only [recF_len] at sm2
    generalize layF M1 (2 * k + 0, recF (0 + 1) b) = M2 at *
    have t2 : St9 (atSt 1000 M2) 2 := by
      have := t1.save k hb lb
      rw [e2] at this
      exact this
    refine ⟨_, _, by rw [n0]; exact e1, e2, t1, t2, t2.spoil _ _ hx, fun h => absurd h hik, fun _ => ⟨?_, ?_⟩⟩
    · rw [load_at hidi h2]; rfl
    · by_cases hin : 0 ≤ (at0 : Int) ∧ (at0 : Int) < (gb (atSt 1000 M2).all (2 * k)).length
      · rw [spoil_quiet (d := atSt 1000 M2) sr2 hin (by show (sumB M2 : Int) ≤ 1000; omega)]
        have h3 := HasM.other sr2 h2 (q := 2 * k) (by omega) (by omega) (spoilB (gb (atSt 1000 M2).all (2 * k)) (at0 : Int).toNat x)
        have e3 := load_at (room := 1000) hidi h3
        exact e3
      · rw [spoil_none hin, load_at hidi h2]; rfl
/-- The states of the document's example. -/
theorem lives_states : ∃ d1 d2, saveSt (newSt 100) 7 [97] = (d1, 0) ∧ saveSt (failSt d1 1) 7 [98] = (d2, 9) ∧ loadF d2 7 = ([97], 1, true) ∧ St9 d1 1 ∧ St9 (failSt d1 1) 1 ∧ St9 d2 2 := by
  have n0 : newSt 100 = atSt 100 [] := rfl
  have s0 : St9 (newSt 100) 0 := St9.new (by constructor <;> decide)
  have hid : idB 7 = true := by decide
  have oka : bytOk [97] := by intro x hx; simp at hx; subst hx; decide
  have okb : bytOk [98] := by intro x hx; simp at hx; subst hx; decide
  have e1 := save_quiet (d := atSt 100 []) (at_quiet _ _) List.Pairwise.nil (k := 7) hid (fresh_has rfl rfl) (B' := [97]) (wr9_small (by decide) (by decide) (by simp)) (by show (0 : Int) + 1 + 9 ≤ 100; omega)
  simp only [if_true] at e1
  change saveSt (atSt 100 []) 7 [97] = (atSt 100 (layF [] (2 * 7 + 0, recF (0 + 1) [97])), 0) at e1
  have h1 : HasM (layF [] (2 * 7 + 0, recF (0 + 1) [97])) 7 (0 + 1) [97] false := HasM.put (M := []) List.Pairwise.nil (fresh_has rfl rfl) (wr9_small (by decide) (by decide) (by simp))
  generalize layF [] (2 * 7 + 0, recF (0 + 1) [97]) = M1 at *
  have t1 : St9 (atSt 100 M1) 1 := by
    have := s0.save 7 oka (by simp)
    rw [n0, e1] at this
    exact this
  have t2 := (t1.fail (k := 1) (by decide)).save 7 okb (by simp)
  have hof : of9 (failSt (atSt 100 M1) 1) 7 = (2 * 7 + 0, 0 + 1, [97]) := HasP.of h1 7
  have e2 : saveSt (failSt (atSt 100 M1) 1) 7 [98] = (atSt 100 M1, 9) := by
    unfold saveSt
    rw [if_pos hid, hof]
    simp only
    rw [if_pos (wr9_small (by decide) (by decide) (by simp))]
    have hp : ∀ q X, putSt (failSt (atSt 100 M1) 1) q X = (atSt 100 M1, 9) := fun q X => by
      unfold putSt
      rw [if_pos (show (failSt (atSt 100 M1) 1).falls = true from rfl)]
      rfl
    rw [hp, if_neg (by show ¬ (9 : Int) = 0; decide)]
  rw [e2] at t2
  refine ⟨_, _, by rw [n0]; exact e1, e2, ?_, t1, t1.fail (by decide), t2⟩
  rw [load_at hid h1]
  rfl
end Go.Proofs.Ythjekbbldejlpaa
/- Words of layer 9: bytes in new memory. No program. -/
set_option linter.unusedVariables false
set_option linter.unusedSimpArgs false
namespace Go.Proofs.Ythjekbbldejlpaa
open Go Go.RowKit
/-- Bytes in new memory. -/
def BytsNew (w w' : World) (v : Value) (B : List Int) : Prop := BytsAt w' v B ∧ (0 < B.length → ∃ g off n c, v = .slice (some ⟨g, off, none⟩) n c ∧ w.heap.size ≤ g)
/-- A row of one's own, from its seventh byte on. -/
theorem bytsNew_own {w0 w : World} {base : Nat} {e : TypeId} {v : Value} {B : List Int} (h : w.ownsRow base e 1 v B.length (bytVs B)) (hb : w0.heap.size ≤ base) : BytsNew w0 w v B := by
  refine ⟨byts_of_owned h, fun hp => ?_⟩
  rcases h.2 with ⟨_, h0⟩ | ⟨g, cap, cur, rfl, hg, _⟩
  · omega
  · exact ⟨g, 0, _, cap, rfl, Nat.le_trans hb hg⟩
theorem BytsNew.keep {w0 w w' : World} {v : Value} {B : List Int} (h : BytsNew w0 w v B) (hb : Below w.heap.size w w') : BytsNew w0 w' v B := ⟨h.1.keep hb, h.2⟩
theorem BytsNew.older {w0 w1 w : World} {v : Value} {B : List Int} (h : BytsNew w1 w v B) (hb : w0.heap.size ≤ w1.heap.size) : BytsNew w0 w v B := ⟨h.1, fun hp => by
  obtain ⟨g, off, n, c, e, hg⟩ := h.2 hp
  exact ⟨g, off, n, c, e, Nat.le_trans hb hg⟩⟩
theorem BytsNew.none (w0 w : World) : BytsNew w0 w (.slice none 0 0) [] := ⟨BytsAt.nil, fun h => absurd h (by simp)⟩
end Go.Proofs.Ythjekbbldejlpaa
/- What the laws of layer 9 ask of the landed store: contracts over a footprint, a structure: to be filled for the landed code (storeI). -/
set_option linter.unusedVariables false
set_option linter.unusedSimpArgs false
namespace Go.Proofs.Ythjekbbldejlpaa
open Go.ChangeShapes Go.WideShapes Go.ChangeAt Go.RowKit
structure StoreI where
  At : World → Foot → Value → St → Prop
  lt : ∀ {w F p d}, At w F p d → ∀ b, F b → b < w.heap.size
  ptr : ∀ {w F p d}, At w F p d → ∃ b, p = .pointer (some ⟨b, 0, none⟩)
  same : ∀ {w w' F p d}, At w F p d → (∀ b, F b → w'.heap[b]? = w.heap[b]?) → At w' F p d
  types : ∀ {w F p d}, At w F p d → ∀ b c t f, F b → w.heap[b]? = some (.cells c t f) → ¬ calmT t
  new : ∀ (room : Int) (w : World), i64 room → Calls Try.prog 17 #[.int .i64 room] w fun e w' => ∃ p F, e = .returned p ∧ At w' F p (newSt room) ∧ (∀ b, F b → w.heap.size ≤ b) ∧ Below w.heap.size w w'
  save : ∀ (w : World) (F : Foot) (p : Value) (d : St) (k : Int) (vb : Value) (B : List Int) (i : Nat), At w F p d → St9 d i → i ≤ 300 → i64 k → BytsAt w vb B → bytOk B → (B.length ≤ 20 ∨ 65536 < B.length ∧ B.length ≤ 65600) →
    Calls Try.prog 23 #[p, .int .i64 k, vb] w fun e w' => ∃ F', e = .returned (.int .i64 (saveSt d k B).2) ∧ At w' F' p (saveSt d k B).1 ∧ Step F F' w w'
  load : ∀ (w : World) (F : Foot) (p : Value) (d : St) (k : Int) (i : Nat), At w F p d → St9 d i → i ≤ 300 → i64 k →
    Calls Try.prog 21 #[p, .int .i64 k] w fun e w' => ∃ vb, e = .returned (.tuple #[vb, .int .i64 (loadF d k).2.1, .bool (loadF d k).2.2]) ∧ BytsNew w w' vb (loadF d k).1 ∧ Below w.heap.size w w'
  spoil : ∀ (w : World) (F : Foot) (p : Value) (d : St) (k at0 x : Int) (i : Nat), At w F p d → St9 d i → i ≤ 300 → i64 k → i64 at0 → 0 ≤ x ∧ x ≤ 255 →
    Calls Try.prog 24 #[p, .int .i64 k, .int .i64 at0, .int .u8 x] w fun e w' => ∃ F', e = .returned (.bool (spoilSt d k at0 x).2) ∧ At w' F' p (spoilSt d k at0 x).1 ∧ Step F F' w w'
  ids : ∀ (w : World) (F : Foot) (p : Value) (d : St) (i : Nat), At w F p d → St9 d i → i ≤ 300 →
    Calls Try.prog 44 #[p] w fun e w' => ∃ vb, e = .returned vb ∧ IntsAt w' vb (idsF d) ∧ Below w.heap.size w w'
  write : ∀ (w : World) (ver : Int) (vb : Value) (B : List Int), i64 ver → BytsAt w vb B → bytOk B → B.length ≤ 900 →
    Calls Try.prog 10 #[.int .i64 ver, vb] w fun e w' => ∃ v', e = .returned (.tuple #[v', .int .i64 (if wr9 ver B = true then 0 else 1)]) ∧ BytsAt w' v' (wrF9 ver B) ∧ Below w.heap.size w w'
  read : ∀ (w : World) (vb : Value) (l : List Int), BytsAt w vb l → bytOk l → l.length ≤ 1000 →
    Calls Try.prog 14 #[vb] w fun e w' => ∃ v', e = .returned (.tuple #[.int .i64 (readV l), v', .int .i64 (readE l)]) ∧ BytsAt w' v' (readB l) ∧ Below w.heap.size w w'
  /- Its disk, in its first cell: promoted methods are called of it. -/
  disk : ∀ {w F p d}, At w F p d → ∃ b q, p = .pointer (some ⟨b, 0, none⟩) ∧ b < w.heap.size ∧ w.cell? ⟨b, 0, none⟩ = some (.pointer (some q))
  sync : ∀ (w : World) (F : Foot) (b : Nat) (q : Value) (d : St) (i : Nat), At w F (.pointer (some ⟨b, 0, none⟩)) d → w.cell? ⟨b, 0, none⟩ = some q → St9 d i → i ≤ 300 →
    Calls Try.prog 37 #[q] w fun e w' => ∃ F', e = .returned (.int .i64 (syncSt d).2) ∧ At w' F' (.pointer (some ⟨b, 0, none⟩)) (syncSt d).1 ∧ Step F F' w w'
  fail : ∀ (w : World) (F : Foot) (b : Nat) (q : Value) (d : St) (k : Int), At w F (.pointer (some ⟨b, 0, none⟩)) d → w.cell? ⟨b, 0, none⟩ = some q → i64 k →
    Calls Try.prog 33 #[q, .int .i64 k] w fun e w' => ∃ F' v, e = .returned v ∧ At w' F' (.pointer (some ⟨b, 0, none⟩)) (failSt d k) ∧ Step F F' w w'
  crash : ∀ (w : World) (F : Foot) (b : Nat) (q : Value) (d : St) (k : Int) (i : Nat), At w F (.pointer (some ⟨b, 0, none⟩)) d → w.cell? ⟨b, 0, none⟩ = some q → St9 d i → i ≤ 300 → i64 k →
    Calls Try.prog 39 #[q, .int .i64 k] w fun e w' => ∃ F', e = .returned (.int .i64 (crashSt d k).2) ∧ At w' F' (.pointer (some ⟨b, 0, none⟩)) (crashSt d k).1 ∧ Step F F' w w'
  left : ∀ (w : World) (F : Foot) (b : Nat) (q : Value) (d : St) (i : Nat), At w F (.pointer (some ⟨b, 0, none⟩)) d → w.cell? ⟨b, 0, none⟩ = some q → St9 d i → i ≤ 300 →
    Calls Try.prog 22 #[q] w fun e w' => e = .returned (.int .i64 (sumB d.under)) ∧ Below w.heap.size w w'
theorem StoreI.keep (I : StoreI) {w w' : World} {F : Foot} {p : Value} {d : St} (h : I.At w F p d) (hb : Below w.heap.size w w') : I.At w' F p d := I.same h fun b hF => hb.block b (I.lt h b hF)
theorem StoreI.row (I : StoreI) {w w' : World} {F F' : Foot} {p : Value} {d : St} (h : I.At w F p d) (hs : Step F F' w w') {b : Nat} {cs : Array Value} {t : TypeId} (ht : calmT t) (r : RowAt w b cs t) : RowAt w' b cs t :=
  (hs.block b r.lt (fun hF => I.types h b _ _ _ hF r ht)).trans r
theorem StoreI.dat (I : StoreI) {R : Value → List Int → Prop} {w w' : World} {F F' : Foot} {p v : Value} {d r : St} (h : I.At w F p d) (hs : Step F F' w w') (hr : DAtR R w v r) : DAtR R w' v r :=
  hr.typed fun b c f hb => (hs.block b (Array.getElem?_eq_some_iff.1 hb).1 (fun hF => I.types h b _ _ _ hF hb (.inl rfl))).trans hb
/-- Bytes outside of the footprint stay. -/
theorem byts_step {F F' : Foot} {w w' : World} (hs : Step F F' w w') {v : Value} {B : List Int} (h : BytsAt w v B) (hn : 0 < B.length → ∃ g off n c, v = .slice (some ⟨g, off, none⟩) n c ∧ ¬ F g) : BytsAt w' v B := by
  rcases h with h | ⟨g, off, cap, e, hc, hg, hx⟩
  · exact .inl h
  · rcases Nat.eq_zero_or_pos B.length with h0 | h0
    · obtain rfl := List.length_eq_zero_iff.1 h0
      exact .inl ⟨⟨_, _, e⟩, rfl⟩
    · obtain ⟨g', off', n', c', e', hF⟩ := hn h0
      rw [e] at e'
      simp only [Value.slice.injEq, Option.some.injEq, Addr.mk.injEq] at e'
      obtain ⟨⟨rfl, _⟩, _⟩ := e'
      have e2 := hs.block g hg hF
      exact .inr ⟨g, off, cap, e, hc, Nat.lt_of_lt_of_le hg hs.size, fun j hj => (World.cell?_of_block (a := ⟨g, off + j, none⟩) e2).trans (hx j hj)⟩
/-- Bytes that lie below the footprint stay. -/
theorem byts_low {F F' : Foot} {w w' : World} (hs : Step F F' w w') {lo : Nat} {w0 : World} (hlo : w0.heap.size = lo) (hF : ∀ b, F b → lo ≤ b) (h0 : Below w0.heap.size w0 w) {v : Value} {B : List Int} (h : BytsAt w0 v B) : BytsAt w' v B := by
  refine h.keep ?_
  rw [hlo] at h0 ⊢
  exact h0.trans (hs.below hF (by rw [← hlo]; exact h0.size))
end Go.Proofs.Ythjekbbldejlpaa
/- What the statements of layer 8 call: the example. -/
set_option linter.unusedVariables false
set_option linter.unusedSimpArgs false
namespace Go.Proofs.Ythjekbbldejlpaa
open Go.ChangeShapes Go.WideShapes Go.ChangeAt Go.RowKit
theorem byts_row {w : World} {b : Nat} {cs : Array Value} {t : TypeId} (h : RowAt w b cs t) (l : List Int) (hl : cs.toList = bytVs l) : BytsAt w (.slice (some ⟨b, 0, none⟩) l.length l.length) l :=
  .inr ⟨b, 0, l.length, rfl, Nat.le_refl _, h.lt, fun j hj => by
    rw [Nat.zero_add, h.cell]
    have : cs[j]? = cs.toList[j]? := by simp
    rw [this, hl]
    simp [bytVs, hj]⟩
theorem bytOk_small {l : List Int} (h : (l.all fun x => decide (0 ≤ x) && decide (x ≤ 255)) = true) : bytOk l := fun x hx => by
  have := List.all_eq_true.1 h x hx
  simp only [Bool.and_eq_true, decide_eq_true_eq] at this
  exact this
/-- The first so many bytes: of the same row. -/
theorem r8_few (v : Value) (l : List Int) (M : Nat) (w : World) (hl : BytsAt w v l) (hL : l.length ≤ maxLen) (hM : M ≤ 100000) : Calls Try.prog 9 #[v, .int .i64 M] w fun e w' =>
    e = .returned (slCut v (min l.length M)) ∧ Below w.heap.size w w' := by
  obtain ⟨p, cap, rfl, hf⟩ := hl.form
  have hf2 : 0 < l.length → ∃ g off, p = some ⟨g, off, none⟩ ∧ l.length ≤ cap := fun h => by
    obtain ⟨g, off, e, hc, _⟩ := hf h
    exact ⟨g, off, e, hc⟩
  clear hf hl
  obtain ⟨N, hN⟩ : ∃ N, l.length = N := ⟨_, rfl⟩
  rw [hN] at hf2 hL ⊢
  unfold maxLen at hL
  clear hN
  by_cases h : (M : Int) < N
  · obtain ⟨g, off, rfl, hc⟩ := hf2 (by omega)
    have hc2 : (M : Int) ≤ cap := by omega
    have e : min N M = M := by omega
    rw [e]
    clear hf2 e
    go_enter Try.func9, Try.ntmps9
    go_wp2
    go_ret
    exact ⟨rfl, by (repeat (first | with_reducible assumption | with_reducible exact Below.refl _ _ | with_reducible refine Below.drew ?_ | with_reducible refine below_drewN ?_ _ | with_reducible refine al ?_ _ | (with_reducible refine sc ?_ ?_; (focus (first | omega | (simp; done) | (simp; omega)))) | (with_reducible refine chain ?_ (by assumption))))⟩
  · have e : min N M = N := by omega
    rw [e]
    clear hf2 e
    go_enter Try.func9, Try.ntmps9
    go_wp2
    go_ret
    exact ⟨rfl, by (repeat (first | with_reducible assumption | with_reducible exact Below.refl _ _ | with_reducible refine Below.drew ?_ | with_reducible refine below_drewN ?_ _ | with_reducible refine al ?_ _ | (with_reducible refine sc ?_ ?_; (focus (first | omega | (simp; done) | (simp; omega)))) | (with_reducible refine chain ?_ (by assumption))))⟩
end Go.Proofs.Ythjekbbldejlpaa
/- What the statements of layer 9 call: the example. -/
set_option linter.unusedVariables false
set_option linter.unusedSimpArgs false
namespace Go.Proofs.Ythjekbbldejlpaa
open Go.ChangeShapes Go.WideShapes Go.ChangeAt Go.RowKit
set_option maxRecDepth 10000 in
set_option maxHeartbeats 8000000 in
theorem l9_lives (I : StoreI) (w : World) : Calls Try.prog 16 #[] w fun e w' => e = .returned (.bool true) ∧ Below w.heap.size w w' := by
  obtain ⟨d1, d2, e1, e2, e3, t1, t2, t3⟩ := lives_states
  have oka : bytOk [97] := bytOk_small rfl
  have okb : bytOk [98] := bytOk_small rfl
  have i7 : i64 7 := ⟨by decide, by decide⟩
  have i1 : i64 1 := ⟨by decide, by decide⟩
  have s0 : St9 (newSt 100) 0 := St9.new ⟨by decide, by decide⟩
  have NEW := Lib.hid (fun u => I.new 100 u ⟨by decide, by decide⟩)
  have S1 := Lib.hid (fun u F p va (hA : I.At u F p (newSt 100)) (hb : BytsAt u va [97]) => I.save u F p _ 7 va [97] 0 hA s0 (by omega) i7 hb oka (.inl (by decide)))
  have S2 := Lib.hid (fun u F p va (hA : I.At u F p (failSt d1 1)) (hb : BytsAt u va [98]) => I.save u F p _ 7 va [98] 1 hA t2 (by omega) i7 hb okb (.inl (by decide)))
  have LD := Lib.hid (fun u F p (hA : I.At u F p d2) => I.load u F p _ 7 2 hA t3 (by omega) i7)
  have E1 := Lib.hid e1
  have E2 := Lib.hid e2
  have E3 := Lib.hid e3
  clear e1 e2 e3 t1 t2 t3 s0
  go_enter Try.func16, Try.ntmps16
  go_wp2_with fail
  refine (NEW.out _).mono ?_
  rintro e w1 ⟨p, F, rfl, hA, hF, hb1⟩
  obtain ⟨b, rfl⟩ := I.ptr hA
  have kw : Below w.heap.size w w1 := hb1
  clear hb1
  go_wp2_with fail
  obtain ⟨u1, hu1⟩ : ∃ u, w1.alloc (.cells #[.int .u8 97] 5) = u := ⟨_, rfl⟩
  have kv : Below w1.heap.size w1 u1 := by rw [← hu1]; exact al (Below.refl _ _) _
  have hb : BytsAt u1 (.slice (some ⟨w1.heap.size, 0, none⟩) 1 1) [97] := byts_row (l := [97]) (by rw [← hu1]; exact RowAt.new w1 #[.int .u8 97] _) rfl
  rw [hu1]
  have sv := S1.out u1 F _ _ (I.keep hA kv) hb
  rw [E1.out] at sv
  refine sv.mono ?_
  rintro e w2 ⟨F2, rfl, hA2, hs2⟩
  have k1' := chain kw kv
  have hF2 := hs2.low hF k1'.size
  have k2 := k1'.trans (hs2.below hF k1'.size)
  clear hu1 kv hb hA kw hs2 k1' hF sv
  obtain ⟨b', q, hq1, hq2, hq3⟩ := I.disk hA2
  cases hq1
  have FL := Lib.hid (I.fail w2 F2 _ _ d1 1 hA2 hq3 i1)
  go_wp2_with fail
  refine (FL.out).mono ?_
  rintro e w3 ⟨F3, v3, rfl, hA3, hs3⟩
  have hF3 := hs3.low hF2 k2.size
  have k3 := k2.trans (hs3.below hF2 k2.size)
  clear hA2 hs3 k2 hF2 hq2 hq3 FL
  go_wp2_with fail
  obtain ⟨u3, hu3⟩ : ∃ u, w3.alloc (.cells #[.int .u8 98] 5) = u := ⟨_, rfl⟩
  have kv : Below w3.heap.size w3 u3 := by rw [← hu3]; exact al (Below.refl _ _) _
  have hb : BytsAt u3 (.slice (some ⟨w3.heap.size, 0, none⟩) 1 1) [98] := byts_row (l := [98]) (by rw [← hu3]; exact RowAt.new w3 #[.int .u8 98] _) rfl
  rw [hu3]
  have sv := S2.out u3 F3 _ _ (I.keep hA3 kv) hb
  rw [E2.out] at sv
  refine sv.mono ?_
  rintro e w4 ⟨F4, rfl, hA4, hs4⟩
  have k3' := chain k3 kv
  have hF4 := hs4.low hF3 k3'.size
  have k4 := k3'.trans (hs4.below hF3 k3'.size)
  clear hu3 kv hb hA3 hs4 k3' hF3 k3 sv
  go_wp2_with fail
  have ld := LD.out w4 F4 _ hA4
  rw [E3.out] at ld
  refine ld.mono ?_
  rintro e w5 ⟨vb, rfl, hn5, hb5⟩
  have k5 := chain k4 hb5
  obtain ⟨pb, cb, hvs⟩ := hn5.1.shape
  have hb5' := hn5.1
  subst hvs
  clear hn5 hb5 hA4 hF4 k4 ld
  go_wp2_with fail
  obtain ⟨u5, hu5⟩ : ∃ u, w5.alloc (.cells #[.int .u8 97] 5) = u := ⟨_, rfl⟩
  have kv : Below w5.heap.size w5 u5 := by rw [← hu5]; exact al (Below.refl _ _) _
  have hc : BytsAt u5 (.slice (some ⟨w5.heap.size, 0, none⟩) 1 1) [97] := byts_row (l := [97]) (by rw [← hu5]; exact RowAt.new w5 #[.int .u8 97] _) rfl
  rw [hu5]
  refine (r6_same _ _ [97] [97] u5 (hb5'.keep kv) hc oka oka).mono ?_
  rintro e w6 ⟨rfl, hv6⟩
  have k6 := chain (chain k5 kv) hv6
  have K6 := Lib.hid k6
  clear hu5 kv hc hb5' hv6 k5 k6
  go_wp2
  go_ret
  exact ⟨rfl, K6.out⟩
end Go.Proofs.Ythjekbbldejlpaa
/- What comes in, opened: whole numbers, ways, boxes. -/
set_option linter.unusedVariables false
namespace Go.Proofs.Ythjekbbldejlpaa
open Go.ChangeShapes Go.WideShapes Go.ChangeAt Go.RowKit Go.Deep
set_option maxRecDepth 10000 in
theorem laidOut : laidOutB Try.prog = true := by kernel_rfl
section
variable {H : Type} {enc : TypeId × Value → H} {w : World} {base : Nat} {spare : Nat → Bool} {held : Bool} {r : Reach} {b0 : Nat}
set_option maxRecDepth 10000 in
theorem wf_i64 {n : Int} (h : (Lit.int .i64 n).wf = true) : -9223372036854775808 ≤ n ∧ n ≤ 9223372036854775807 := by
  have h1 : IntKind.i64.min = -9223372036854775808 := rfl
  have h2 : IntKind.i64.max = 9223372036854775807 := rfl
  simp only [Lit.wf, Bool.and_eq_true, decide_eq_true_eq] at h
  omega
set_option maxRecDepth 10000 in
theorem int_trod {n : Nat} {cs : List Value} {x : DataW H × List MemPlace} (h : DataW.trod enc Try.prog w base spare held n 3 cs = some x) :
    ∃ a : Int, cs = [.int .i64 a] ∧ -9223372036854775808 ≤ a ∧ a ≤ 9223372036854775807 := by
  obtain ⟨a, e, _, wf⟩ := DataW.trod_int Try.underlying3 h
  exact ⟨a, e, wf_i64 wf⟩
set_option maxRecDepth 10000 in
theorem open_num {v : Value} {d : DataW H} {p : List MemPlace} (hv : Value.okWide Try.prog w r b0 3 v) (h : DataW.Trod enc Try.prog w base spare held 3 v d p) :
    ∃ a : Int, v = .int .i64 a ∧ -9223372036854775808 ≤ a ∧ a ≤ 9223372036854775807 := by
  obtain ⟨a, rfl, _, _, wf⟩ := open_int Try.underlying3 hv h
  exact ⟨a, rfl, wf_i64 wf⟩
structure V3 where
  x : Int
  y : Int
  z : Int
abbrev V3.val (a : V3) : Value := .agg #[.int .i64 a.x, .int .i64 a.y, .int .i64 a.z]
abbrev V3.wf (a : V3) : Prop := (-9223372036854775808 ≤ a.x ∧ a.x ≤ 9223372036854775807) ∧ (-9223372036854775808 ≤ a.y ∧ a.y ≤ 9223372036854775807) ∧ (-9223372036854775808 ≤ a.z ∧ a.z ≤ 9223372036854775807)
set_option maxRecDepth 10000 in
theorem three_trod {t : TypeId} {f0 f1 f2 : Field} {n : Nat} {cs : List Value} {x : DataW H × List MemPlace} (hs : Try.prog.underlying t = some (.struct #[f0, f1, f2])) (hC : Try.prog.cellsOf t = 3)
    (t0 : f0.type = 3) (t1 : f1.type = 3) (t2 : f2.type = 3) (o0 : f0.offset = 0) (o1 : f1.offset = 1) (o2 : f2.offset = 2) (h1 : Try.prog.cellsOf 3 = 1)
    (h : DataW.trod enc Try.prog w base spare held n t cs = some x) : ∃ a : V3, cs = [.int .i64 a.x, .int .i64 a.y, .int .i64 a.z] ∧ a.wf := by
  obtain ⟨y0, y1, y2, m, _, hl, g0, g1, g2⟩ := trod_struct3 hs h
  rw [hC] at hl
  rw [t0, o0, h1] at g0
  rw [t1, o1, h1] at g1
  rw [t2, o2, h1] at g2
  match cs, hl with
  | [c0, c1, c2], _ =>
    obtain ⟨a, ea, wa⟩ := int_trod g0
    obtain ⟨b, eb, wb⟩ := int_trod g1
    obtain ⟨c, ec, wc⟩ := int_trod g2
    simp at ea eb ec
    subst ea eb ec
    exact ⟨⟨a, b, c⟩, rfl, wa, wb, wc⟩
set_option maxRecDepth 10000 in
theorem one_int : Try.prog.cellsOf 3 = 1 := by kernel_rfl
end
end Go.Proofs.Ythjekbbldejlpaa
