/-
  What the calls of package chunk answer: Room, Bit.
-/
import Derived.Test.YtnjifmecaeagaaaDoorChunk3
set_option linter.unusedVariables false
namespace Go.Proofs.YtnjifmecaeagaaaDoor
open Go.RowKit

def roomI (c : Int) (b : Nat) : Int := headI (onesL (lowN (18446744073709551615 - b) (mnyI c)) 64)
set_option maxHeartbeats 1000000 in
theorem room_run (c l m : Int) (b : Nat) (w : World) (hw : Lw w) (b1 : b < 18446744073709551616) :
    Calls Tryd.prog 107 #[.agg #[.int .i64 1, .int .i64 c, .int .i64 l, .int .i64 m, .int .u64 b]] w fun e w' => e = .returned (.int .i64 (roomI c b)) ∧ Below w.heap.size w w' := by
  have hw1 := Lib.hid ((hw.alloc (.cells #[.int .i64 1, .int .i64 c, .int .i64 l, .int .i64 m, .int .u64 b] 29)).drew)
  have hT := Lib.hid hw1.out.2.2.1
  have hD := Lib.hid hw1.out.1
  have hG := Lib.hid hw1.out.2.1
  have hF := Lib.hid (fun w (hd : Deb w) (h0 : 6 < w.heap.size) => first0_any b (mnyI c) w b1 hd h0)
  go_enter Tryd.func107, Tryd.ntmps107
  go_wp2_with fail
  go_region_held3 (fun w' => w'.cell? ⟨w.heap.size, 1, none⟩ = some (.int .i64 c) ∧ w'.cell? ⟨w.heap.size, 4, none⟩ = some (.int .u64 b) ∧ Below w.heap.size w w')
    (((try go_split_ands); refine ⟨?_, ?_, ?_⟩ <;> first | assumption | (rw [hb.cell (by simp)]; simp [go_sem]; done) | (exact ((Below.refl _ w).alloc (Nat.le_refl _) _).drew.trans (hb.mono (by simp))) | (go_keep; done) | (go_grown; done)))
    ((first | (go_at_call 90; (with_reducible refine (mny_any c _ hT.out).mono ?_); rintro e w8 ⟨rfl, rfl⟩) | (go_at_call 111; (with_reducible refine (hF.out _ hD.out hG.out).mono ?_); rintro e w8 ⟨rfl, hb⟩)))
  go_wp2_with fail
  go_ret
  go_split_ands
  exact ⟨rfl, by assumption⟩
set_option maxHeartbeats 400000 in
theorem room_no (k c l m : Int) (b : Int) (w : World) (hk : ¬ k = 1) :
    Calls Tryd.prog 107 #[.agg #[.int .i64 k, .int .i64 c, .int .i64 l, .int .i64 m, .int .u64 b]] w fun e w' => e = .returned (.int .i64 (-1)) ∧ Below w.heap.size w w' := by
  go_enter Tryd.func107, Tryd.ntmps107
  go_wp2_with fail
  go_ret
  exact ⟨rfl, (Below.refl _ _).alloc (Nat.le_refl _) _⟩
end Go.Proofs.YtnjifmecaeagaaaDoor
