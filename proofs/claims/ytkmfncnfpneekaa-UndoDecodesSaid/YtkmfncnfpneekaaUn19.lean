/-
  The laws of package undo: UndoDecodes.
-/
import Derived.Test.YtkmfncnfpneekaaUn12
import Derived.Test.YtkmfncnfpneekaaUn15
set_option linter.unusedVariables false
set_option linter.unusedSimpArgs false
namespace Go.Proofs.Ytkmfncnfpneekaa
open Go.RowKit Go.ChangeShapes Go.WideShapes Go.Deep

theorem evs_small (gn : Nat) : ∀ (f : Nat) (ws : List Nat) (x : Pe), some x ∈ evsF gn f ws → x.2.length ≤ ws.length
  | _, [], x, h => by unfold evsF at h; simp at h
  | 0, _ :: _, x, h => by unfold evsF at h; simp at h
  | f + 1, w :: ws, x, h => by
    unfold evsF at h
    split at h
    · rcases List.mem_cons.1 h with h | h
      · cases h
        unfold peN
        simp only [List.length_take, List.length_drop, List.length_cons]
        omega
      · have := evs_small gn f _ x h
        rw [List.length_drop] at this
        omega
    · simp at h
theorem decL_small {gn : Nat} {ws : List Nat} {l : List Pe} (h : decL gn ws = some l) : l.length ≤ ws.length ∧ ∀ x ∈ l, x.2.length ≤ ws.length := by
  unfold decL at h
  split at h
  · cases h
  · cases h
    refine ⟨Nat.le_trans (List.length_filterMap_le _ _) (evs_len gn _ ws), fun x hx => ?_⟩
    obtain ⟨y, hy, e⟩ := List.mem_filterMap.1 hx
    simp only [id_eq] at e
    subst e
    exact evs_small gn _ ws x hy
set_option maxRecDepth 10000 in
set_option maxHeartbeats 2000000 in
theorem undoDecodes (gn : Nat) (v : Value) (ws : List Nat) (w : World) (hg : gn < 18446744073709551616) (hW : WL ws) (hv : KL .u64 w v ws) :
    Calls Try.prog 4 #[.int .u64 (gn : Nat), v] w fun e w' => e = .returned (.bool true) ∧ Below w.heap.size w w' := by
  have hAw := awake13 w
  obtain ⟨n, hn⟩ : ∃ n, ws.length = n := ⟨_, rfl⟩
  obtain ⟨A, cap, rfl, _⟩ := hv.form hn
  by_cases h1 : 100 < n
  · have h1' : (100 : Int) < (n : Int) := by omega
    go_enter Try.func4, Try.ntmps4
    go_wp2_with (first
      | (go_at_call 10; refine hAw.mono ?_; rintro e w1 ⟨rfl, hb1⟩
         clear hAw))
    go_ret
    exact ⟨rfl, hb1⟩
  have h1' : (n : Int) ≤ 100 := by omega
  have hsm : ((decL gn ws).getD []).length ≤ 1000000 ∧ ∀ x ∈ (decL gn ws).getD [], x.2.length ≤ 1000000 := by
    cases hd : decL gn ws with
    | none => exact ⟨by simp, fun x hx => by simp at hx⟩
    | some l =>
      obtain ⟨q1, q2⟩ := decL_small hd
      exact ⟨by show l.length ≤ _; omega, fun x hx => by have := q2 x hx; omega⟩
  have hD := Lib.hid (fun w' (hb : Below w.heap.size w w') => Decode_any gn _ ws w' hg hW (by omega) (hv.keep hb))
  have hR := Lib.hid (fun w' (hb : Below w.heap.size w w') => refDecode_any gn _ ws w' hg hW (by omega) (hv.keep hb))
  replace hsm := Lib.hid hsm
  generalize (decL gn ws).getD [] = l at *
  generalize (decL gn ws).isSome = b at *
  have hbb : (b == b) = true := by simp
  replace hv := Lib.hid hv
  clear hn
  go_enter Try.func4, Try.ntmps4
  go_wp2_with (first
    | (go_at_call 10; refine hAw.mono ?_; rintro e w1 ⟨rfl, hb1⟩
       have h2 := hD.out w1 hb1
       clear hAw)
    | (go_at_call 16; refine h2.mono ?_; rintro e w2 ⟨v2, rfl, hN2, hb⟩
       have hB2 := hb1.trans (hb.mono hb1.size)
       have h3 := hR.out w2 hB2
       clear h2 hb hb1)
    | (go_at_call 17; refine h3.mono ?_; rintro e w3 ⟨v3, rfl, hN3, hb⟩
       have hB3 := hB2.trans (hb.mono hB2.size)
       have hSm := same_any v2 v3 l l w3 hsm.out.1 hsm.out.2 (hN2.keep hb) hN3
       rw [decide_eq_true rfl] at hSm
       clear h3 hb hN2 hN3 hB2)
    | (go_at_call 18; refine hSm.mono ?_; rintro e w4 ⟨rfl, hb⟩
       have hB4 := hB3.trans (hb.mono hB3.size)
       clear hSm hb hB3))
  go_ret
  exact ⟨ret_b (by simp), hB4⟩
end Go.Proofs.Ytkmfncnfpneekaa
