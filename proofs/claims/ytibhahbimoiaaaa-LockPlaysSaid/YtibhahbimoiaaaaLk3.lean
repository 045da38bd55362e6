/-
  Layer 18 (lock): the document's Held.
-/
import Derived.Test.YtibhahbimoiaaaaLk2
set_option linter.unusedVariables false
set_option linter.unusedSimpArgs false
namespace Go.Proofs.Ytibhahbimoiaaaa
open Go.RowKit Go.ChangeShapes Go.WideShapes Go.Deep

/-- a lane's keys -/
def heldL (T : List Px) (lane : Int) : List Int := T.flatMap fun p => if p.2 = lane then [p.1] else []
theorem heldL_take (T : List Px) (lane : Int) (k : Nat) (h : k < T.length) : heldL (T.take (k + 1)) lane = heldL (T.take k) lane ++ (if (T.getD k default).2 = lane then [(T.getD k default).1] else []) := by
  unfold heldL
  rw [List.take_succ_eq_append_getElem h, List.flatMap_append, List.getD_eq_getElem?_getD, List.getElem?_eq_getElem h]
  simp
theorem heldL_len (T : List Px) (lane : Int) : (heldL T lane).length ≤ T.length := by
  induction T with
  | nil => simp [heldL]
  | cons p T ih =>
    have e : heldL (p :: T) lane = (if p.2 = lane then [p.1] else []) ++ heldL T lane := rfl
    rw [e, List.length_append, List.length_cons]
    split <;> simp <;> omega
set_option maxHeartbeats 1000000 in
theorem refHeld_any (B : Nat) (v : Value) (T : List Px) (lane : Int) (w : World) (hlen : T.length ≤ 100000) (hc : w.cell? ⟨B, 0, none⟩ = some v) (hv : EL 2 pE w v T) :
    Calls Try.prog 39 #[.pointer (some ⟨B, 0, none⟩), .int .i64 lane] w fun e w' => ∃ v', e = .returned v' ∧ OwnE 3 1 iE w' w.heap.size v' (heldL T lane) ∧ Below w.heap.size w w' := by
  obtain ⟨n, hn⟩ : ∃ n, T.length = n := ⟨_, rfl⟩
  obtain ⟨A, cap, rfl, hC⟩ := hv.form hn
  have hS := Lib.hid (fun k (h : k < n) => heldL_take T lane k (by omega))
  have hE := Lib.hid (show heldL (T.take n) lane = heldL T lane from by rw [List.take_of_length_le (by omega)])
  have hL := Lib.hid (fun k => show (heldL (T.take k) lane).length ≤ n from Nat.le_trans (heldL_len _ _) (by rw [List.length_take]; omega))
  replace hC := Lib.hid hC
  have hlen' : n ≤ 100000 := by omega
  clear hlen hv
  replace hn := Lib.hid hn
  go_enter Try.func39, Try.ntmps39
  go_wp2_with fail
  go_loopw [6, 5] (fun i o wr => ∃ (k : Nat) (J : List Int), k ≤ n ∧ i = .int .i64 k ∧ Hid (J = heldL (T.take k) lane) ∧ OwnE 3 1 iE wr w.heap.size o J ∧ Below w.heap.size w wr) (fun i _ _ => n + 1 - (intOf i).toNat)
  case atStart => exact ⟨0, [], Nat.zero_le _, rfl, rfl, OwnE.nil _ _ _ _ _, Below.refl _ _⟩
  case round =>
    obtain ⟨k, J, hk, rfl, hJ, hown, hB⟩ := hrel
    have hcr := cellK hc hB
    by_cases hlt : k < n
    · obtain ⟨g, off, rfl, hcap, _, hg, hcl⟩ := hC.out wr k hB hlt
      have c0 := hcl 0 (by omega)
      have c1 := hcl 1 (by omega)
      clear hcl
      rw [Nat.add_zero] at c0
      have hlt' : (k : Int) < (n : Int) := by omega
      have hs := hS.out k hlt
      rw [← hJ.out] at hs
      have hJl : J.length ≤ n := by rw [hJ.out]; exact hL.out k
      generalize T.getD k default = o at *
      obtain ⟨x, a⟩ := o
      replace c0 : wr.cell? ⟨g, off + k * 2, none⟩ = some (.int .i64 x) := c0
      replace c1 : wr.cell? ⟨g, off + k * 2 + 1, none⟩ = some (.int .i64 a) := c1
      by_cases q : a = lane
      · subst q
        have hR := Lib.hid (show J ++ [x] = heldL (T.take (k + 1)) a from by rw [hs, if_pos rfl])
        have t1 : (a == a) = true := by simp
        clear hs
        have hone : EL 1 iE (wr.alloc (.cells #[.int .i64 x] (3 : Nat))) (.slice (some ⟨wr.heap.size, 0, none⟩) 1 1) [x] := (OwnE.lit 3 iE_len wr [x] #[.int .i64 x] rfl (by simp)).el iE_len
        obtain ⟨v', w4, hrun, ho, hg4, _, _⟩ := appE iT (hown.alloc (.cells #[.int .i64 x] (3 : Nat))) hone (by have := hB.size; simp; omega) (by omega) (by simp)
        have hB4 : Below w.heap.size w w4 := (hB.alloc hB.size _).grown hg4 (by have := hB.size; simp; omega) (fun i hi => (hown.lt _ hi).1)
        clear hone hg4 hown
        go_wp2_with (at_builtin; refine wpList_append_run rfl _ _ 59 rfl _ _ _ rfl rfl hrun ?_)
        clear hrun
        go_roundw
        case rel => exact ⟨k + 1, _, by omega, by go_num, hR, ho, hB4⟩
        case measure => simp [intOf]; omega
      · have hR := Lib.hid (show J = heldL (T.take (k + 1)) lane from by rw [hs, if_neg q, List.append_nil])
        have t1 : (a == lane) = false := by rw [beq_eq_false_iff_ne]; exact q
        clear hs
        go_wp2_with fail
        go_roundw
        case rel => exact ⟨k + 1, _, by omega, by go_num, hR, hown, hB⟩
        case measure => simp [intOf]; omega
    · obtain rfl : k = n := by omega
      have hR : J = heldL T lane := by rw [hJ.out, hE.out]
      replace hR := Lib.hid hR
      go_wp2_with fail
      go_ret
      exact ⟨_, rfl, by rw [← hR.out]; exact hown, hB⟩
end Go.Proofs.Ytibhahbimoiaaaa
