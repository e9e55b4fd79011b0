/- Contracts of layer 1 (fixed) and of its reference: what each call answers. -/
import Derived.Test.YtenpcmhfbbfpeaaRows
import Derived.Test.YtenpcmhfbbfpeaaM01
import Derived.Test.YtenpcmhfbbfpeaaShelf
import Derived.WalkKit
import Derived.ProofKit
import Derived.OpenShut
import Derived.WalkLawsBesides
import Derived.WalkSpells
import Derived.Deep.QuietTactic
import Derived.BigQuiet
import Derived.Lib.Hide
import Derived.Handy
import Derived.Lib.MinMax
import Derived.WalkSmall
set_option linter.unusedVariables false
namespace Go.Proofs.Ytenpcmhfbbfpeaa
open Go.ChangeShapes Go.WideShapes Go.ChangeAt Go.RowKit
theorem c_cut (n : Int) (w : World) : Calls Try.prog 57 #[.int .i64 n] w fun e w' => e = .returned (.int .i64 (cut n)) ∧ w = w' := by
  unfold cut
  go_enter Try.func57, Try.ntmps57
  go_wp2
  all_goals
    go_ret
    exact ⟨ret_int (by omega), rfl⟩
theorem r_cut (n : Int) (w : World) : Calls Try.prog 45 #[.int .i64 n] w fun e w' => e = .returned (.int .i64 (cut n)) ∧ w = w' := by
  unfold cut
  go_enter Try.func45, Try.ntmps45
  go_wp2
  all_goals
    go_ret
    exact ⟨ret_int (by omega), rfl⟩
theorem c_frac (n : Int) (w : World) : Calls Try.prog 58 #[.int .i64 n] w fun e w' => e = .returned (.int .i64 (cut n % 65536)) ∧ w = w' := by
  have ha := cut_bd n
  have hm := Lib.hid (and_i64 (cut n))
  go_enter Try.func58, Try.ntmps58
  go_wp2_with (go_at_call 57; refine (c_cut _ _).mono ?_; rintro e w' ⟨rfl, rfl⟩)
  go_ret
  exact ⟨ret_int hm.out, rfl⟩
theorem c_floor (n : Int) (w : World) : Calls Try.prog 43 #[.int .i64 n] w fun e w' => e = .returned (.int .i64 (cut n / 65536)) ∧ w = w' := by
  have ha := cut_bd n
  go_enter Try.func43, Try.ntmps43
  go_wp2_with (first | (go_at_call 57; refine (c_cut _ _).mono ?_; rintro e w' ⟨rfl, rfl⟩) | (go_at_call 58; refine (c_frac _ _).mono ?_; rintro e w' ⟨rfl, rfl⟩))
  go_ret
  exact ⟨ret_int (tdiv_floor _), rfl⟩
theorem c_of (n : Int) (w : World) : Calls Try.prog 59 #[.int .i64 n] w fun e w' => e = .returned (.int .i64 (whole n * 65536)) ∧ w = w' := by
  unfold whole
  go_enter Try.func59, Try.ntmps59
  go_wp2
  all_goals
    go_ret
    exact ⟨ret_int (by omega), rfl⟩
