/-
  What the document's answers on geometries are: contracts on the calls (6).
-/
import Derived.Test.YtjmilngndoiceaaUGeo5
namespace Go.Proofs.Ytjmilngndoiceaa
open Go.RowKit

def smW (a b c : Int) : Int := 10 + 73 * (1 + a % 64) + 33 * (1 + b % 200) + c % 33
def smL (a : Int) : Int := 1 + a % 64
theorem sm_ok (a b c : Int) (_ha : 0 ≤ a) (_hb : 0 ≤ b) (_hc : 0 ≤ c) : gOk (smW a b c) (smL a) = true ∧ gN (smW a b c) (smL a) = 1 + b % 200 := by
  unfold gOk gN smW smL
  refine ⟨?_, ?_⟩
  · simp only [decide_eq_true_eq]; omega
  · omega
set_option maxHeartbeats 400000 in
theorem small_any (a b c : Int) (w : World) (h1 : 0 ≤ a) (h2 : a ≤ 255) (h3 : 0 ≤ b) (h4 : b ≤ 255) (h5 : 0 ≤ c) (h6 : c ≤ 255) :
    Calls Try.prog 15 #[.int .u8 a, .int .u8 b, .int .u8 c] w fun e w' => e = .returned (.agg #[.int .i64 (smW a b c), .int .i64 (smL a)]) ∧ Below w.heap.size w w' := by
  go_enter Try.func15, Try.ntmps15
  go_wp2
  go_returns
  refine ⟨?_, by go_grown⟩
  unfold smW smL
  exact ret_g (by omega) (by omega)

end Go.Proofs.Ytjmilngndoiceaa
