/-
  Part of the proof of MendBytes.
-/
import Derived.Test.YtkdhdibjbabgfaaGreatDoorVb21
import Derived.Test.YtkdhdibjbabgfaaGreatDoorVb37
import Derived.Test.YtkdhdibjbabgfaaGreatDoorVb6
section
set_option linter.unusedVariables false
set_option linter.unusedSimpArgs false
namespace Go.Proofs.YtkdhdibjbabgfaaGreatDoor
open Go.Lib Go.RowKit Go.ChangeShapes Go.WideShapes Go.Deep
theorem readB_t {I : List Nat} {W L : Int} (h : readB I W L = true) : poolB I = true ∧ W = (I.length : Nat) ∧ L = (I.getD 3 0 : Nat) := by
  unfold readB at h
  rw [Bool.and_eq_true] at h
  exact ⟨h.1, of_decide_eq_true h.2⟩
def laneB (I : List Nat) (W L ln : Int) : Bool := readB I W L && decide (0 ≤ ln ∧ ln < L)
def logP (I : List Nat) (W L ln : Int) : List Sp := if laneB I W L ln = true then logSp I L.toNat ln.toNat else []
def laneP (I : List Nat) (W L ln : Int) : Option (List Ox) := if laneB I W L ln = true then laneD I L.toNat ln.toNat else none
set_option maxRecDepth 10000 in
set_option maxHeartbeats 1000000 in
theorem log_any (v : Value) (I : List Nat) (W L ln : Int) (w : World) (hw : Lw w) (hW : WL I) (hv : KL .u64 w v I) (h40 : poolB I = true → gNat I.length (I.getD 3 0) ≤ 40) :
    Calls Tryz.prog 17 #[v, .agg #[.int .i64 W, .int .i64 L], .int .i64 ln] w fun e w' => ∃ v', e = .returned v' ∧ OwnSp w' w.heap.size v' (logP I W L ln) ∧ Below w.heap.size w w' := by
  have hA := (Below.refl w.heap.size w).alloc (Nat.le_refl _) (.cells #[.int .i64 W, .int .i64 L] 33)
  have hR := Lib.hid (fun w1 (hb : Below w.heap.size w w1) => readable_any v I W L w1 (hw.keep hb) hW (hv.keep hb))
  obtain ⟨nn, hnn⟩ : ∃ n, I.length = n := ⟨_, rfl⟩
  have gC := C2.new w (.int .i64 W) (.int .i64 L) 33
  obtain ⟨C, hC⟩ : ∃ C, w.heap.size = C := ⟨_, rfl⟩
  rw [hC] at gC
  cases hr : readB I W L with
  | false =>
    have hno := Lib.hid (show logP I W L ln = [] from if_neg (by unfold laneB; rw [hr]; simp))
    rw [hr] at hR
    obtain ⟨q0, q1⟩ := id gC
    clear hr h40
    go_enter Tryz.func17, Tryz.ntmps17
    go_wp2_with fail
    refine (hR.out _ hA).mono ?_
    rintro e w1 ⟨rfl, hb1⟩
    have hB1 := hA.trans (hb1.mono hA.size)
    clear hb1 hR
    go_wp2_with fail
    go_ret
    exact ⟨_, rfl, by rw [hno.out]; exact OwnSp.nil _ _, hB1⟩
  | true =>
    obtain ⟨hp, hW1, hL1⟩ := readB_t hr
    obtain ⟨L3, hL3⟩ : ∃ L3, I.getD 3 0 = L3 := ⟨_, rfl⟩
    have hgk := (gOk_pool (pool_t hp).1).2
    replace h40 := h40 hp
    rw [hL3] at hL1 hgk h40
    rw [hnn] at hW1
    subst hW1
    subst hL1
    rw [hr] at hR
    have hsz := (pool_size hgk).2.1
    by_cases h0 : ln < 0
    · have hno := Lib.hid (show logP I (nn : Nat) (L3 : Nat) ln = [] from if_neg (by unfold laneB; rw [hr, decide_eq_false (by omega)]; decide))
      obtain ⟨q0, q1⟩ := id gC
      clear hr h40 hgk hp hL3
      go_enter Tryz.func17, Tryz.ntmps17
      go_wp2_with fail
      refine (hR.out _ hA).mono ?_
      rintro e w1 ⟨rfl, hb1⟩
      have hB1 := hA.trans (hb1.mono hA.size)
      clear hb1 hR
      go_wp2_with fail
      go_ret
      exact ⟨_, rfl, by rw [hno.out]; exact OwnSp.nil _ _, hB1⟩
    obtain ⟨n, rfl⟩ := Int.eq_ofNat_of_zero_le (show 0 ≤ ln by omega)
    by_cases h1 : L3 ≤ n
    · have hno := Lib.hid (show logP I (nn : Nat) (L3 : Nat) (n : Nat) = [] from if_neg (by unfold laneB; rw [hr, decide_eq_false (by omega)]; decide))
      have h1' : ((L3 : Int)) ≤ (n : Int) := by omega
      clear hr h40 hgk hp hL3 h0
      go_enter Tryz.func17, Tryz.ntmps17
      obtain ⟨q0, q1⟩ := id gC
      go_wp2_with fail
      refine (hR.out _ hA).mono ?_
      rintro e w1 ⟨rfl, hb1⟩
      have hB1 := hA.trans (hb1.mono hA.size)
      obtain ⟨r0, r1⟩ := gC.keep hb1
      clear hb1 hR q0 q1
      go_wp2_with fail
      go_ret
      exact ⟨_, rfl, by rw [hno.out]; exact OwnSp.nil _ _, hB1⟩
    · have hyes := Lib.hid (show logP I (nn : Nat) (L3 : Nat) (n : Nat) = logSp I L3 n from if_pos (by unfold laneB; rw [hr, decide_eq_true (by omega)]; decide))
      have hMl := Lib.hid (fun w1 (hb : Below w.heap.size w w1) => mlog_any v I L3 n w1 (hw.keep hb) hW (hv.keep hb) hgk (by omega) h40)
      rw [hnn] at hMl
      have h1' : ((n : Int)) < (L3 : Int) := by omega
      clear hr h40 hgk hp hL3 h0
      go_enter Tryz.func17, Tryz.ntmps17
      obtain ⟨q0, q1⟩ := id gC
      go_wp2_with fail
      refine (hR.out _ hA).mono ?_
      rintro e w1 ⟨rfl, hb1⟩
      have hB1 := hA.trans (hb1.mono hA.size)
      obtain ⟨r0, r1⟩ := gC.keep hb1
      clear hb1 hR q0 q1
      go_wp2_with fail
      refine (hMl.out _ hB1).mono ?_
      rintro e w2 ⟨v', rfl, ho2, hb2⟩
      have hB2 := hB1.trans (hb2.mono hB1.size)
      have ho3 := Lib.hid (ho2.mono hB1.size)
      clear ho2 hb2 hMl
      go_wp2_with fail
      go_ret
      exact ⟨_, rfl, by rw [hyes.out]; exact ho3.out, hB2⟩
end Go.Proofs.YtkdhdibjbabgfaaGreatDoor
end
section
set_option linter.unusedVariables false
set_option linter.unusedSimpArgs false
namespace Go.Proofs.YtkdhdibjbabgfaaGreatDoor
open Go.Lib Go.RowKit Go.ChangeShapes Go.WideShapes Go.Deep
def mkE (x : Nat) : Nat := if mkOk x then mkG x else 0
theorem mkOk_i (x : Nat) : okB ((x : Int) % 4) ((x : Int) / 4 % 16384) ((x : Int) / 65536) = mkOk x := by
  unfold mkOk mkS mkC mkG
  rw [show ((x % 4 : Nat) : Int) = (x : Int) % 4 from by omega, show ((x / 4 % 16384 : Nat) : Int) = (x : Int) / 4 % 16384 from by omega, show ((x / 65536 : Nat) : Int) = (x : Int) / 65536 from by omega]
theorem mkE_lt {x : Nat} (hx : x < 18446744073709551616) : mkE x ≤ 281474976710655 := by
  unfold mkE mkG; split <;> omega
theorem mkE_end (x : Nat) : (0 : Int) + 0 * 4 + (mkE x : Nat) * 65536 = (endN x : Nat) := by
  unfold mkE endN
  split <;> omega
theorem mkdec (x : Nat) (w : World) (hx : x < 18446744073709551616) :
    Calls Tryz.prog 68 #[.int .u64 (x : Nat)] w fun e w' => (∃ a b : Int, e = .returned (.tuple #[.agg #[.int .i64 a, .int .i64 b, .int .u64 (mkE x : Nat)], .bool (mkOk x)])) ∧ Below w.heap.size w w' := by
  cases h : mkOk x with
  | true =>
    refine (decode_t (x : Nat) w (by omega) (by omega) (by rw [mkOk_i, h])).mono ?_
    rintro e w' ⟨rfl, hb⟩
    refine ⟨⟨(x : Int) % 4, (x : Int) / 4 % 16384, ?_⟩, hb⟩
    rw [show ((mkE x : Nat) : Int) = (x : Int) / 65536 from by unfold mkE mkG; rw [if_pos h]; omega]
  | false =>
    refine (decode_f (x : Nat) w (by omega) (by omega) (by rw [mkOk_i, h])).mono ?_
    rintro e w' ⟨rfl, hb⟩
    refine ⟨⟨0, 0, ?_⟩, hb⟩
    rw [show ((mkE x : Nat) : Int) = 0 from by unfold mkE; rw [h]; rfl]
theorem mkenc (x : Nat) (w : World) (hx : x < 18446744073709551616) :
    Calls Tryz.prog 84 #[.agg #[.int .i64 0, .int .i64 0, .int .u64 (mkE x : Nat)]] w fun e w' => e = .returned (.tuple #[.int .u64 (endN x : Nat), .int .i64 0]) ∧ Below w.heap.size w w' := by
  have hE := mkE_lt hx
  refine (encode_t 0 0 (mkE x : Nat) w (decide_eq_true (by omega)) (by omega)).mono ?_
  rintro e w' ⟨rfl, hb⟩
  exact ⟨by rw [mkE_end], hb⟩
theorem endN_lt {x : Nat} (hx : x < 18446744073709551616) : endN x < 18446744073709551616 := by
  unfold endN mkG; split <;> omega
theorem noLog_lt {x : Nat} (hx : x < 18446744073709551616) : noLog x < 18446744073709551616 := by
  unfold noLog; split <;> omega
theorem WL.setN {l : List Nat} (h : WL l) (i y : Nat) (hy : y < 18446744073709551616) : WL (l.set i y) := fun z hz => by
  rcases List.mem_or_eq_of_mem_set hz with h1 | h1
  · exact h z h1
  · rw [h1]; exact hy
theorem WL.getN {l : List Nat} (h : WL l) (i : Nat) : l.getD i 0 < 18446744073709551616 := by
  rw [List.getD_eq_getElem?_getD]
  cases hc : l[i]? with
  | none => decide
  | some x => exact h x (List.mem_of_getElem? hc)
theorem idlesL_WL {I : List Nat} (h : WL I) : ∀ k, WL (idlesL I k)
  | 0 => h
  | k + 1 => (idlesL_WL h k).setN _ _ (endN_lt ((idlesL_WL h k).getN _))
theorem clrL_WL {I : List Nat} {L : Nat} (h : WL I) : ∀ k, WL (clrL I L k)
  | 0 => h
  | k + 1 => (clrL_WL h k).setN _ _ (noLog_lt ((clrL_WL h k).getN _))
end Go.Proofs.YtkdhdibjbabgfaaGreatDoor
end
