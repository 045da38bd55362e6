/-
  The laws of package class: the walks (2).
-/
import Derived.Test.YtalplklaepbaeaaDoorClass3
set_option linter.unusedVariables false
namespace Go.Proofs.YtalplklaepbaeaaDoor
open Go.RowKit

theorem rom_mono {x y : Int} (h0 : 0 ≤ x) (h : x ≤ y) (h1 : y ≤ 4096) : romJ x ≤ romJ y ∧ chkI x ≤ chkI y ∧ (romJ x = romJ y → clsI x = clsI y ∧ chkI x = chkI y) := by
  unfold romJ chkI clsI
  repeat' split
  all_goals omega

set_option maxHeartbeats 2000000 in
theorem classFits_0 (s : Int) (w : World) (ht : Tab w) (h0 : 0 ≤ s) (h00 : s ≤ 65535) (h1 : 0 ≤ s % 4097) (h2 : s % 4097 ≤ 2) : Calls Tryd.prog 4 #[.int .u16 s] w fun e w' => e = .returned (.bool true) ∧ w = w' := by
  go_enter Tryd.func4, Tryd.ntmps4
  go_wp2_with (first | (go_at_call 8; ((with_reducible refine (awake_any _ ht).mono ?_); rintro e w' ⟨rfl, rfl⟩)) | (go_at_call 11; ((with_reducible refine (of_0 (s % 4097) _ ht h1 h2).mono ?_); rintro e w' ⟨rfl, rfl⟩)) | (go_at_call 13; ((with_reducible refine (chk_0 (s % 4097) _ ht h1 h2).mono ?_); rintro e w' ⟨rfl, rfl⟩)) | (go_at_call 15; ((with_reducible refine (rom_0 (s % 4097) _ ht h1 h2).mono ?_); rintro e w' ⟨rfl, rfl⟩)) | (go_at_call 17; ((with_reducible refine (blk_0 0 _ ht rfl).mono ?_); rintro e w' ⟨rfl, rfl⟩)) | (go_at_call 17; ((with_reducible refine (blk_1 1 _ ht rfl).mono ?_); rintro e w' ⟨rfl, rfl⟩)) | (go_at_call 17; ((with_reducible refine (blk_2 2 _ ht rfl).mono ?_); rintro e w' ⟨rfl, rfl⟩)))
  go_ret
  exact ⟨rfl, rfl⟩
set_option maxHeartbeats 2000000 in
theorem classFits_1 (s : Int) (w : World) (ht : Tab w) (h0 : 0 ≤ s) (h00 : s ≤ 65535) (h1 : 3 ≤ s % 4097) (h2 : s % 4097 ≤ 6) : Calls Tryd.prog 4 #[.int .u16 s] w fun e w' => e = .returned (.bool true) ∧ w = w' := by
  go_enter Tryd.func4, Tryd.ntmps4
  go_wp2_with (first | (go_at_call 8; ((with_reducible refine (awake_any _ ht).mono ?_); rintro e w' ⟨rfl, rfl⟩)) | (go_at_call 11; ((with_reducible refine (of_1 (s % 4097) _ ht h1 h2).mono ?_); rintro e w' ⟨rfl, rfl⟩)) | (go_at_call 13; ((with_reducible refine (chk_1 (s % 4097) _ ht h1 h2).mono ?_); rintro e w' ⟨rfl, rfl⟩)) | (go_at_call 15; ((with_reducible refine (rom_1 (s % 4097) _ ht h1 h2).mono ?_); rintro e w' ⟨rfl, rfl⟩)) | (go_at_call 17; ((with_reducible refine (blk_0 0 _ ht rfl).mono ?_); rintro e w' ⟨rfl, rfl⟩)) | (go_at_call 17; ((with_reducible refine (blk_1 1 _ ht rfl).mono ?_); rintro e w' ⟨rfl, rfl⟩)) | (go_at_call 17; ((with_reducible refine (blk_2 2 _ ht rfl).mono ?_); rintro e w' ⟨rfl, rfl⟩)))
  go_ret
  exact ⟨rfl, rfl⟩
set_option maxHeartbeats 2000000 in
theorem classFits_2 (s : Int) (w : World) (ht : Tab w) (h0 : 0 ≤ s) (h00 : s ≤ 65535) (h1 : 7 ≤ s % 4097) (h2 : s % 4097 ≤ 14) : Calls Tryd.prog 4 #[.int .u16 s] w fun e w' => e = .returned (.bool true) ∧ w = w' := by
  go_enter Tryd.func4, Tryd.ntmps4
  go_wp2_with (first | (go_at_call 8; ((with_reducible refine (awake_any _ ht).mono ?_); rintro e w' ⟨rfl, rfl⟩)) | (go_at_call 11; ((with_reducible refine (of_2 (s % 4097) _ ht h1 h2).mono ?_); rintro e w' ⟨rfl, rfl⟩)) | (go_at_call 13; ((with_reducible refine (chk_2 (s % 4097) _ ht h1 h2).mono ?_); rintro e w' ⟨rfl, rfl⟩)) | (go_at_call 15; ((with_reducible refine (rom_2 (s % 4097) _ ht h1 h2).mono ?_); rintro e w' ⟨rfl, rfl⟩)) | (go_at_call 17; ((with_reducible refine (blk_0 0 _ ht rfl).mono ?_); rintro e w' ⟨rfl, rfl⟩)) | (go_at_call 17; ((with_reducible refine (blk_1 1 _ ht rfl).mono ?_); rintro e w' ⟨rfl, rfl⟩)) | (go_at_call 17; ((with_reducible refine (blk_2 2 _ ht rfl).mono ?_); rintro e w' ⟨rfl, rfl⟩)))
  go_ret
  exact ⟨rfl, rfl⟩
set_option maxHeartbeats 2000000 in
theorem classFits_3 (s : Int) (w : World) (ht : Tab w) (h0 : 0 ≤ s) (h00 : s ≤ 65535) (h1 : 15 ≤ s % 4097) (h2 : s % 4097 ≤ 4096) : Calls Tryd.prog 4 #[.int .u16 s] w fun e w' => e = .returned (.bool true) ∧ w = w' := by
  go_enter Tryd.func4, Tryd.ntmps4
  go_wp2_with (first | (go_at_call 8; ((with_reducible refine (awake_any _ ht).mono ?_); rintro e w' ⟨rfl, rfl⟩)) | (go_at_call 11; ((with_reducible refine (of_3 (s % 4097) _ ht h1 h2).mono ?_); rintro e w' ⟨rfl, rfl⟩)) | (go_at_call 13; ((with_reducible refine (chk_3 (s % 4097) _ ht h1 h2).mono ?_); rintro e w' ⟨rfl, rfl⟩)) | (go_at_call 15; ((with_reducible refine (rom_3 (s % 4097) _ ht h1 h2).mono ?_); rintro e w' ⟨rfl, rfl⟩)) | (go_at_call 17; ((with_reducible refine (blk_0 0 _ ht rfl).mono ?_); rintro e w' ⟨rfl, rfl⟩)) | (go_at_call 17; ((with_reducible refine (blk_1 1 _ ht rfl).mono ?_); rintro e w' ⟨rfl, rfl⟩)) | (go_at_call 17; ((with_reducible refine (blk_2 2 _ ht rfl).mono ?_); rintro e w' ⟨rfl, rfl⟩)))
  go_ret
  exact ⟨rfl, rfl⟩
set_option maxHeartbeats 2000000 in
theorem classMore_00 (a b : Int) (w : World) (ht : Tab w) (a0 : 0 ≤ a) (a1 : a ≤ 65535) (b0 : 0 ≤ b) (b1 : b ≤ 65535) (h : a % 4097 ≤ b % 4097) (he : ¬ romJ (a % 4097) = romJ (b % 4097)) : Calls Tryd.prog 5 #[.int .u16 a, .int .u16 b] w fun e w' => e = .returned (.bool true) ∧ w = w' := by
  obtain ⟨m1, m2, m3⟩ := rom_mono (x := a % 4097) (y := b % 4097) (by omega) (by omega) (by omega)
  clear m3
  have p1 : (romJ (a % 4097) == romJ (b % 4097)) = false := by simpa using he
  clear he
  go_enter Tryd.func5, Tryd.ntmps5
  go_wp2_with (first | (go_at_call 8; ((with_reducible refine (awake_any _ ht).mono ?_); rintro e w' ⟨rfl, rfl⟩)) | (go_at_call 11; ((with_reducible refine (of_any (a % 4097) _ ht).mono ?_); rintro e w' ⟨rfl, rfl⟩)) | (go_at_call 13; ((with_reducible refine (chk_any (a % 4097) _ ht).mono ?_); rintro e w' ⟨rfl, rfl⟩)) | (go_at_call 15; ((with_reducible refine (rom_any (a % 4097) _ ht).mono ?_); rintro e w' ⟨rfl, rfl⟩)) | (go_at_call 11; ((with_reducible refine (of_any (b % 4097) _ ht).mono ?_); rintro e w' ⟨rfl, rfl⟩)) | (go_at_call 13; ((with_reducible refine (chk_any (b % 4097) _ ht).mono ?_); rintro e w' ⟨rfl, rfl⟩)) | (go_at_call 15; ((with_reducible refine (rom_any (b % 4097) _ ht).mono ?_); rintro e w' ⟨rfl, rfl⟩)))
  go_ret
  exact ⟨rfl, rfl⟩
set_option maxHeartbeats 2000000 in
theorem classMore_01 (a b : Int) (w : World) (ht : Tab w) (a0 : 0 ≤ a) (a1 : a ≤ 65535) (b0 : 0 ≤ b) (b1 : b ≤ 65535) (h : a % 4097 ≤ b % 4097) (he : romJ (a % 4097) = romJ (b % 4097)) : Calls Tryd.prog 5 #[.int .u16 a, .int .u16 b] w fun e w' => e = .returned (.bool true) ∧ w = w' := by
  obtain ⟨m1, m2, m3⟩ := rom_mono (x := a % 4097) (y := b % 4097) (by omega) (by omega) (by omega)
  obtain ⟨q1, q2⟩ := m3 he
  have p1 : (romJ (a % 4097) == romJ (b % 4097)) = true := by simpa using he
  have p2 : (clsI (a % 4097) != clsI (b % 4097)) = false := by simpa using q1
  have p3 : (chkI (a % 4097) != chkI (b % 4097)) = false := by simpa using q2
  clear m3 q1 q2 he
  go_enter Tryd.func5, Tryd.ntmps5
  go_wp2_with (first | (go_at_call 8; ((with_reducible refine (awake_any _ ht).mono ?_); rintro e w' ⟨rfl, rfl⟩)) | (go_at_call 11; ((with_reducible refine (of_any (a % 4097) _ ht).mono ?_); rintro e w' ⟨rfl, rfl⟩)) | (go_at_call 13; ((with_reducible refine (chk_any (a % 4097) _ ht).mono ?_); rintro e w' ⟨rfl, rfl⟩)) | (go_at_call 15; ((with_reducible refine (rom_any (a % 4097) _ ht).mono ?_); rintro e w' ⟨rfl, rfl⟩)) | (go_at_call 11; ((with_reducible refine (of_any (b % 4097) _ ht).mono ?_); rintro e w' ⟨rfl, rfl⟩)) | (go_at_call 13; ((with_reducible refine (chk_any (b % 4097) _ ht).mono ?_); rintro e w' ⟨rfl, rfl⟩)) | (go_at_call 15; ((with_reducible refine (rom_any (b % 4097) _ ht).mono ?_); rintro e w' ⟨rfl, rfl⟩)))
  go_ret
  exact ⟨rfl, rfl⟩
set_option maxHeartbeats 2000000 in
theorem classMore_10 (a b : Int) (w : World) (ht : Tab w) (a0 : 0 ≤ a) (a1 : a ≤ 65535) (b0 : 0 ≤ b) (b1 : b ≤ 65535) (h : b % 4097 < a % 4097) (he : ¬ romJ (b % 4097) = romJ (a % 4097)) : Calls Tryd.prog 5 #[.int .u16 a, .int .u16 b] w fun e w' => e = .returned (.bool true) ∧ w = w' := by
  obtain ⟨m1, m2, m3⟩ := rom_mono (x := b % 4097) (y := a % 4097) (by omega) (by omega) (by omega)
  clear m3
  have p1 : (romJ (b % 4097) == romJ (a % 4097)) = false := by simpa using he
  clear he
  go_enter Tryd.func5, Tryd.ntmps5
  go_wp2_with (first | (go_at_call 8; ((with_reducible refine (awake_any _ ht).mono ?_); rintro e w' ⟨rfl, rfl⟩)) | (go_at_call 11; ((with_reducible refine (of_any (b % 4097) _ ht).mono ?_); rintro e w' ⟨rfl, rfl⟩)) | (go_at_call 13; ((with_reducible refine (chk_any (b % 4097) _ ht).mono ?_); rintro e w' ⟨rfl, rfl⟩)) | (go_at_call 15; ((with_reducible refine (rom_any (b % 4097) _ ht).mono ?_); rintro e w' ⟨rfl, rfl⟩)) | (go_at_call 11; ((with_reducible refine (of_any (a % 4097) _ ht).mono ?_); rintro e w' ⟨rfl, rfl⟩)) | (go_at_call 13; ((with_reducible refine (chk_any (a % 4097) _ ht).mono ?_); rintro e w' ⟨rfl, rfl⟩)) | (go_at_call 15; ((with_reducible refine (rom_any (a % 4097) _ ht).mono ?_); rintro e w' ⟨rfl, rfl⟩)))
  go_ret
  exact ⟨rfl, rfl⟩
set_option maxHeartbeats 2000000 in
theorem classMore_11 (a b : Int) (w : World) (ht : Tab w) (a0 : 0 ≤ a) (a1 : a ≤ 65535) (b0 : 0 ≤ b) (b1 : b ≤ 65535) (h : b % 4097 < a % 4097) (he : romJ (b % 4097) = romJ (a % 4097)) : Calls Tryd.prog 5 #[.int .u16 a, .int .u16 b] w fun e w' => e = .returned (.bool true) ∧ w = w' := by
  obtain ⟨m1, m2, m3⟩ := rom_mono (x := b % 4097) (y := a % 4097) (by omega) (by omega) (by omega)
  obtain ⟨q1, q2⟩ := m3 he
  have p1 : (romJ (b % 4097) == romJ (a % 4097)) = true := by simpa using he
  have p2 : (clsI (b % 4097) != clsI (a % 4097)) = false := by simpa using q1
  have p3 : (chkI (b % 4097) != chkI (a % 4097)) = false := by simpa using q2
  clear m3 q1 q2 he
  go_enter Tryd.func5, Tryd.ntmps5
  go_wp2_with (first | (go_at_call 8; ((with_reducible refine (awake_any _ ht).mono ?_); rintro e w' ⟨rfl, rfl⟩)) | (go_at_call 11; ((with_reducible refine (of_any (b % 4097) _ ht).mono ?_); rintro e w' ⟨rfl, rfl⟩)) | (go_at_call 13; ((with_reducible refine (chk_any (b % 4097) _ ht).mono ?_); rintro e w' ⟨rfl, rfl⟩)) | (go_at_call 15; ((with_reducible refine (rom_any (b % 4097) _ ht).mono ?_); rintro e w' ⟨rfl, rfl⟩)) | (go_at_call 11; ((with_reducible refine (of_any (a % 4097) _ ht).mono ?_); rintro e w' ⟨rfl, rfl⟩)) | (go_at_call 13; ((with_reducible refine (chk_any (a % 4097) _ ht).mono ?_); rintro e w' ⟨rfl, rfl⟩)) | (go_at_call 15; ((with_reducible refine (rom_any (a % 4097) _ ht).mono ?_); rintro e w' ⟨rfl, rfl⟩)))
  go_ret
  exact ⟨rfl, rfl⟩
end Go.Proofs.YtalplklaepbaeaaDoor
