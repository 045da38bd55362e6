/-
  Layer 18 (lock): the document's Release.
-/
import Derived.Test.YtibhahbimoiaaaaLk3
import Derived.Test.YtibhahbimoiaaaaRd5
set_option linter.unusedVariables false
set_option linter.unusedSimpArgs false
namespace Go.Proofs.Ytibhahbimoiaaaa
open Go.RowKit Go.ChangeShapes Go.WideShapes Go.Deep

/-- what stays when a lane lets go -/
def letL (T : List Px) (lane : Int) : List Px := T.flatMap fun p => if p.2 = lane then [] else [p]
theorem letL_take (T : List Px) (lane : Int) (k : Nat) (h : k < T.length) : letL (T.take (k + 1)) lane = letL (T.take k) lane ++ (if (T.getD k default).2 = lane then [] else [T.getD k default]) := by
  unfold letL
  rw [List.take_succ_eq_append_getElem h, List.flatMap_append, List.getD_eq_getElem?_getD, List.getElem?_eq_getElem h]
  simp
theorem letL_len (T : List Px) (lane : Int) : (letL T lane).length ≤ T.length := by
  induction T with
  | nil => simp [letL]
  | cons p T ih =>
    have e : letL (p :: T) lane = (if p.2 = lane then [] else [p]) ++ letL T lane := rfl
    rw [e, List.length_append, List.length_cons]
    split <;> simp <;> omega
set_option maxHeartbeats 1000000 in
theorem refRelease_any (B : Nat) (v : Value) (T : List Px) (lane : Int) (w : World) (hlen : T.length ≤ 100000) (hc : w.cell? ⟨B, 0, none⟩ = some v) (hf : w.frozen? ⟨B, 0, none⟩ = false) (hv : EL 2 pE w v T) :
    Calls Try.prog 34 #[.pointer (some ⟨B, 0, none⟩), .int .i64 lane] w fun e w' => ∃ v' w1, e = .returned (.int .i64 ((T.length : Int) - ((letL T lane).length : Int))) ∧ OwnE 84 2 pE w1 w.heap.size v' (letL T lane) ∧ Below w.heap.size w w1 ∧ w' = w1.setCell ⟨B, 0, none⟩ v' := by
  obtain ⟨n, hn⟩ : ∃ n, T.length = n := ⟨_, rfl⟩
  obtain ⟨A, cap, rfl, hC⟩ := hv.form hn
  have hS := Lib.hid (fun k (h : k < n) => letL_take T lane k (by omega))
  have hE := Lib.hid (show letL (T.take n) lane = letL T lane from by rw [List.take_of_length_le (by omega)])
  have hL := Lib.hid (fun k => show (letL (T.take k) lane).length ≤ n from Nat.le_trans (letL_len _ _) (by rw [List.length_take]; omega))
  replace hC := Lib.hid hC
  have hlen' : n ≤ 100000 := by omega
  clear hlen hv
  replace hn := Lib.hid hn
  go_enter Try.func34, Try.ntmps34
  go_wp2_with fail
  go_loopw [6, 5] (fun i o wr => ∃ (k : Nat) (J : List Px), k ≤ n ∧ i = .int .i64 k ∧ Hid (J = letL (T.take k) lane) ∧ OwnE 84 2 pE wr w.heap.size o J ∧ Below w.heap.size w wr) (fun i _ _ => n + 1 - (intOf i).toNat)
  case atStart => exact ⟨0, [], Nat.zero_le _, rfl, rfl, OwnE.nil _ _ _ _ _, Below.refl _ _⟩
  case round =>
    obtain ⟨k, J, hk, rfl, hJ, hown, hB⟩ := hrel
    have hcr := cellK hc hB
    have hfr := frozK hc hf hB
    by_cases hlt : k < n
    · obtain ⟨g, off, rfl, hcap, _, hg, hcl⟩ := hC.out wr k hB hlt
      have c0 := hcl 0 (by omega)
      have c1 := hcl 1 (by omega)
      clear hcl
      rw [Nat.add_zero] at c0
      have hlt' : (k : Int) < (n : Int) := by omega
      have hs := hS.out k hlt
      rw [← hJ.out] at hs
      have hJl : J.length ≤ n := by rw [hJ.out]; exact hL.out k
      generalize T.getD k default = o at *
      obtain ⟨x, a⟩ := o
      replace c0 : wr.cell? ⟨g, off + k * 2, none⟩ = some (.int .i64 x) := c0
      replace c1 : wr.cell? ⟨g, off + k * 2 + 1, none⟩ = some (.int .i64 a) := c1
      by_cases q : a = lane
      · have hR := Lib.hid (show J = letL (T.take (k + 1)) lane from by rw [hs, if_pos q, List.append_nil])
        have t1 : (a != lane) = false := by rw [q]; simp
        clear hs
        go_wp2_with fail
        go_roundw
        case rel => exact ⟨k + 1, _, by omega, by go_num, hR, hown, hB⟩
        case measure => simp [intOf]; omega
      · have hR := Lib.hid (show J ++ [(x, a)] = letL (T.take (k + 1)) lane from by rw [hs, if_neg q])
        have t1 : (a != lane) = true := by rw [bne_iff_ne]; exact q
        clear hs
        have hone : EL 2 pE (wr.alloc (.cells #[.int .i64 x, .int .i64 a] (84 : Nat))) (.slice (some ⟨wr.heap.size, 0, none⟩) 1 1) [(x, a)] := (OwnE.lit 84 pE_len wr [(x, a)] #[.int .i64 x, .int .i64 a] rfl (by simp)).el pE_len
        obtain ⟨v', w4, hrun, ho, hg4, _, _⟩ := appE pT (hown.alloc (.cells #[.int .i64 x, .int .i64 a] (84 : Nat))) hone (by have := hB.size; simp; omega) (by omega) (by simp)
        have hB4 : Below w.heap.size w w4 := (hB.alloc hB.size _).grown hg4 (by have := hB.size; simp; omega) (fun i hi => (hown.lt _ hi).1)
        clear hone hg4 hown
        go_wp2_with (at_builtin; refine wpList_append_run rfl _ _ 51 rfl _ _ _ rfl rfl hrun ?_)
        clear hrun
        go_roundw
        case rel => exact ⟨k + 1, _, by omega, by go_num, hR, ho, hB4⟩
        case measure => simp [intOf]; omega
    · obtain rfl : k = n := by omega
      have hR : J = letL T lane := by rw [hJ.out, hE.out]
      have hJl : J.length ≤ k := by rw [hJ.out]; exact hL.out k
      obtain ⟨A2, cap2, rfl, _⟩ := (hown.el pE_len).form rfl
      have i1 : IntKind.i64.wrap ((k : Int) - (J.length : Int)) = (k : Int) - (J.length : Int) := by rw [IntKind.wrap_i64]; omega
      replace hR := Lib.hid hR
      go_wp2_with fail
      go_ret
      exact ⟨_, _, by rw [← hR.out, hn.out]; rfl, by rw [← hR.out]; exact hown, hB, rfl⟩
end Go.Proofs.Ytibhahbimoiaaaa
