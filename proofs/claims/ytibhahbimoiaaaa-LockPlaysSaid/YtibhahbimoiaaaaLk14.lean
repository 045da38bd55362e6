/-
  The laws of package lock: LockOnce.
-/
import Derived.Test.YtibhahbimoiaaaaLk13
set_option linter.unusedVariables false
set_option linter.unusedSimpArgs false
namespace Go.Proofs.Ytibhahbimoiaaaa
open Go.RowKit Go.ChangeShapes Go.WideShapes Go.Deep Go.Maps

theorem put_same {g : Gx} {k l : Int} : putG g k l k = some l := by unfold putG; rw [if_pos rfl]
theorem let_gone {g : Gx} {k l : Int} (h : g k = some l) : letG g l k = none := by unfold letG; rw [if_pos h]
theorem one_held {g : Gx} {k l : Int} {L : List Int} (h : HeldIs g l L) (hk : g k = some l) : 1 ≤ L.length := by
  have := (h.mem k).2 hk
  cases L with
  | nil => cases this
  | cons x L => simp

set_option maxRecDepth 10000 in
set_option maxHeartbeats 2000000 in
theorem lockOnce (v : Value) (l : List Lx) (key a b : Int) (w : World) (hl : LL l) (hv : LPL w v l) (hz : l.length ≤ 9000000000000) (hk : I64 key) (ha : I64 a) (hb : I64 b) :
    Calls Try.prog 10 #[v, .int .i64 key, .int .i64 a, .int .i64 b] w fun e w' => e = .returned (.bool true) ∧ Below w.heap.size w w' := by
  have hD := Lib.hid (fun w1 (hb : Below w.heap.size w w1) => doneO v l w w1 hl (by omega) hv hb)
  obtain ⟨n, hn⟩ : ∃ n, l.length = n := ⟨_, rfl⟩
  obtain ⟨A, cap, rfl, _⟩ := EL.form hv hn
  rw [hn] at hD hz
  generalize doneG l = g at *
  clear hl hv hn
  replace hk := Lib.hid hk
  replace ha := Lib.hid ha
  replace hb := Lib.hid hb
  go_enter Try.func10, Try.ntmps10
  go_wp2_with fail
  refine (awake18 _).mono ?_
  rintro e w1 ⟨rfl, hb1⟩
  go_wp2_with fail
  refine (hD.out _ hb1).mono ?_
  rintro e w2 ⟨B, M, rfl, t2⟩
  have hB2 := t2.bel
  clear hD
  by_cases hlong : 60 < n
  · have h1 : (60 : Int) < (n : Int) := by omega
    go_wp2_with fail
    go_ret
    exact ⟨rfl, hB2⟩
  have h1 : ¬ (60 : Int) < (n : Int) := by omega
  by_cases hab : a = b
  · subst hab
    go_wp2_with fail
    go_ret
    exact ⟨rfl, hB2⟩
  have h2 : (a == b) = false := by rw [beq_eq_false_iff_ne]; exact hab
  clear hB2
  by_cases hf : g key = none ∨ g key = some a
  · have hL := Lib.hid (lockYes t2 hk.out ha.out (by omega) hf)
    clear t2 hf
    go_wp2_with fail
    refine hL.out.mono ?_
    clear hL
    rintro e w3 ⟨rfl, t3⟩
    have hL := Lib.hid (lockYes t3 hk.out ha.out (by omega) (.inr put_same))
    clear t3
    go_wp2_with fail
    refine hL.out.mono ?_
    clear hL
    rintro e w4 ⟨rfl, t4⟩
    have hL := Lib.hid (lockNo t4 hk.out hb.out (by omega) (by rw [put_same]; simpa using hab))
    clear t4
    go_wp2_with fail
    refine hL.out.mono ?_
    clear hL
    rintro e w5 ⟨rfl, t5⟩
    have hO := Lib.hid (ownerO t5 hk.out)
    rw [ownG_of put_same] at hO
    go_wp2_with fail
    refine hO.out.mono ?_
    clear hO
    rintro e w6 ⟨rfl, rfl⟩
    have hR := Lib.hid (releaseO (lane := a) t5 (by omega))
    clear t5
    go_wp2_with fail
    refine hR.out.mono ?_
    clear hR
    rintro e w7 ⟨L, rfl, hL, _, t7⟩
    have hone := one_held hL put_same
    have hone' : (1 : Int) ≤ (L.length : Int) := by omega
    have hL7 := Lib.hid (lockYes t7 hk.out hb.out (by omega) (.inl (let_gone put_same)))
    clear t7 hL hone
    generalize L.length = m at *
    go_wp2_with fail
    refine hL7.out.mono ?_
    clear hL7
    rintro e w8 ⟨rfl, t8⟩
    have hO := Lib.hid (ownerO t8 hk.out)
    rw [ownG_of put_same] at hO
    have hB8 := t8.bel
    clear t8
    go_wp2_with fail
    refine hO.out.mono ?_
    clear hO
    rintro e w9 ⟨rfl, rfl⟩
    go_wp2_with fail
    go_ret
    exact ⟨by simp [hone'], hB8⟩
  · have hL := Lib.hid (lockNo t2 hk.out ha.out (by omega) hf)
    obtain ⟨c, hc⟩ : ∃ c, g key = some c := by
      cases hg : g key with
      | none => exact absurd (.inl hg) hf
      | some c => exact ⟨c, rfl⟩
    have hca : c ≠ a := fun e => hf (.inr (by rw [hc, e]))
    have h3 : (c != a) = true := by rw [bne_iff_ne]; exact hca
    clear t2 hf
    go_wp2_with fail
    refine hL.out.mono ?_
    clear hL
    rintro e w3 ⟨rfl, t3⟩
    have hO := Lib.hid (ownerO t3 hk.out)
    rw [ownG_of hc] at hO
    have hB3 := t3.bel
    clear t3 hc
    go_wp2_with fail
    refine hO.out.mono ?_
    clear hO
    rintro e w9 ⟨rfl, rfl⟩
    go_wp2_with fail
    go_ret
    exact ⟨by simp [h3], hB3⟩
end Go.Proofs.Ytibhahbimoiaaaa
