/-
  Part of the proof of SoundTells,SoundGiven.
-/
import Derived.Test.YtdmmbnnejbmdpaaGreatDoorVu91
import Derived.Test.YtdmmbnnejbmdpaaGreatDoorVu919
import Derived.Test.YtdmmbnnejbmdpaaGreatDoorVu92
import Derived.Test.YtdmmbnnejbmdpaaGreatDoorVu93
import Derived.Test.YtdmmbnnejbmdpaaGreatDoorVu94
import Derived.Test.YtdmmbnnejbmdpaaGreatDoorVu95
import Derived.Test.YtdmmbnnejbmdpaaGreatDoorVu96
import Derived.Laws.CopyOwn
import Derived.Lib.AppendZerosOnto
import Derived.Lib.SliceRun
import Derived.Test.YtdmmbnnejbmdpaaGreatDoorVu90
set_option maxRecDepth 10000
set_option maxHeartbeats 1000000
set_option linter.unusedVariables false
set_option linter.unusedSimpArgs false
section
namespace Go.Proofs.YtdmmbnnejbmdpaaGreatDoor
open Go.RowKit
theorem room_ok (W L : Int) (w : World) (h : gOk W L = true) :
 Calls Tryz.prog 100 #[.agg #[.int .i64 W, .int .i64 L]] w fun e w' => e = .returned (.int .i64 (gN W L)) ∧ Below w.heap.size w w' := by
 obtain ⟨h1, h2, h3, h4⟩ := gOk_t h
 have e : (W - (10 + 73 * L)).tdiv 33 = gN W L := by rw [Int.tdiv_eq_ediv_of_nonneg (by omega)]; rfl
 rw [← e]
 exact room_any W L w h1 h2 (by omega) h3
theorem table_t (W L : Int) (w : World) (h : gOk W L = true) :
 Calls Tryz.prog 97 #[.agg #[.int .i64 W, .int .i64 L]] w fun e w' => e = .returned (.agg #[.int .i64 (10 + 73 * L), .int .i64 (gN W L)]) ∧ Below w.heap.size w w' := by
 obtain ⟨h1, h2, _, _⟩ := gOk_t h
 have H := lh h
 clear h
 go_enter Tryz.func97, Tryz.ntmps97
 go_wp2_with fail
 refine (right_t W L _ H.out).mono ?_
 rintro e w1 ⟨rfl, hb1⟩
 have j1 := ((C2.new w (.int .i64 W) (.int .i64 L) 51).alloc (.cells #[.int .i64 0, .int .i64 0] 57)).keep hb1
 have k1 := (C2.new (w.alloc (.cells #[.int .i64 W, .int .i64 L] 51)) (.int .i64 0) (.int .i64 0) 57).keep hb1
 have f1 := (F2.new (w.alloc (.cells #[.int .i64 W, .int .i64 L] 51)) (.int .i64 0) (.int .i64 0) 57).keep (by simp) hb1
 simp only [World.size_alloc] at k1 f1
 have lt1 := j1.lt
 have lt2 := k1.lt
 obtain ⟨c0, c1⟩ := id k1
 obtain ⟨d0, d1⟩ := id j1
 obtain ⟨g0, g1⟩ := id f1
 have hB : Below w.heap.size w w1 := ((bZ _ _).alloc (by simp) _).trans (hb1.mono (by simp; omega))
 go_wp2_with fail
 go_region_with (first
  | (go_at_call 116; refine (table_any W L _ h1 h2).mono ?_; rintro e w6 ⟨rfl, hb⟩; have BB : Below w.heap.size w w6 := (by first | exact BB.trans (hb.mono (Nat.le_of_lt jj.lt)) | exact hB.drew.trans (hb.mono (Nat.le_of_lt j1.drew.lt)) | exact hB.trans (hb.mono (Nat.le_of_lt j1.lt))); have jj : C2 w6 w.heap.size (.int .i64 W) (.int .i64 L) := (by first | exact jj.keep hb | exact j1.drew.keep hb | exact j1.keep hb); have ff : F2 w6 (w.heap.size + 1) := (by first | exact ff.keep kk.lt hb | exact f1.drew.keep k1.drew.lt hb | exact f1.keep k1.lt hb); have kk : C2 w6 (w.heap.size + 1) (.int .i64 0) (.int .i64 0) := (by first | exact kk.keep hb | exact k1.drew.keep hb | exact k1.keep hb); obtain ⟨d0, d1⟩ := id jj; obtain ⟨c0, c1⟩ := id kk; obtain ⟨g0, g1⟩ := id ff)
  | (go_at_call 100; refine (room_ok W L _ H.out).mono ?_; rintro e w7 ⟨rfl, hb⟩; have BB : Below w.heap.size w w7 := (by first | exact BB.trans (hb.mono (Nat.le_of_lt jj.lt)) | exact hB.drew.trans (hb.mono (Nat.le_of_lt j1.drew.lt)) | exact hB.trans (hb.mono (Nat.le_of_lt j1.lt))); have jj : C2 w7 w.heap.size (.int .i64 W) (.int .i64 L) := (by first | exact jj.keep hb | exact j1.drew.keep hb | exact j1.keep hb); have ff : F2 w7 (w.heap.size + 1) := (by first | exact ff.keep kk.lt hb | exact f1.drew.keep k1.drew.lt hb | exact f1.keep k1.lt hb); have kk : C2 w7 (w.heap.size + 1) (.int .i64 0) (.int .i64 0) := (by first | exact kk.keep hb | exact k1.drew.keep hb | exact k1.keep hb); obtain ⟨d0, d1⟩ := id jj; obtain ⟨c0, c1⟩ := id kk; obtain ⟨g0, g1⟩ := id ff))
 all_goals
  go_wp2_with fail
  refine bodyPost_ret (v := .agg #[.int .i64 (10 + 73 * L), .int .i64 (gN W L)]) (by simp [results, Tryz.results97, go_sem, c0, c1]) rfl ⟨rfl, ?_⟩
  exact (BB.setCell (by simp) _).setCell (by simp) _
end Go.Proofs.YtdmmbnnejbmdpaaGreatDoor
end
section
set_option maxRecDepth 100000
namespace Go.Proofs.YtdmmbnnejbmdpaaGreatDoor
open Go.RowKit
theorem hd_t {t s n : Int} : hdB t s n = true ↔ (1 ≤ t ∧ t ≤ 65535 ∧ 0 ≤ s ∧ s ≤ 4096 ∧ ¬ n = 0) := by unfold hdB; rw [decide_eq_true_eq]
theorem hd_f {t s n : Int} (h : ¬ (1 ≤ t ∧ t ≤ 65535 ∧ 0 ≤ s ∧ s ≤ 4096 ∧ ¬ n = 0)) : hdB t s n = false := decide_eq_false h
theorem right_any_oc (t s n : Int) (w : World) (hn : 0 ≤ n) : Calls Tryz.prog 109 #[nV t s n] w fun e w' => e = .returned (.bool (hdB t s n)) ∧ Below w.heap.size w w' := by
 unfold nV
 by_cases k1 : 1 ≤ t
 ·by_cases k2 : t ≤ 65535
  ·by_cases k3 : 0 ≤ s
   ·by_cases k4 : s ≤ 4096
    ·by_cases k5 : n = 0
     ·rw [hd_f (by omega)]
      subst k5
      clear hn
      have j1 : t ≥ 1 := by omega
      have j2 : t ≤ 65535 := by omega
      go_enter Tryz.func109, Tryz.ntmps109
      go_wp2_with fail
      go_ret
      exact ⟨rfl, by go_grown⟩
     ·rw [hd_t.2 ⟨k1, k2, k3, k4, k5⟩]
      have j1 : t ≥ 1 := by omega
      have j2 : t ≤ 65535 := by omega
      have j5 : 0 < n := by omega
      go_enter Tryz.func109, Tryz.ntmps109
      go_wp2_with fail
      go_ret
      exact ⟨by first | rfl | (refine ret_b ?_; first | (simp; omega) | (simp [k5]; done)), by go_grown⟩
    ·rw [hd_f (by omega)]
     have j1 : t ≥ 1 := by omega
     have j2 : t ≤ 65535 := by omega
     have k4' : 4096 < s := by omega
     go_enter Tryz.func109, Tryz.ntmps109
     go_wp2_with fail
     go_ret
     exact ⟨rfl, by go_grown⟩
   ·rw [hd_f (by omega)]
    have j1 : t ≥ 1 := by omega
    have j2 : t ≤ 65535 := by omega
    have k3' : s < 0 := by omega
    go_enter Tryz.func109, Tryz.ntmps109
    go_wp2_with fail
    go_ret
    exact ⟨rfl, by go_grown⟩
  ·rw [hd_f (by omega)]
   have j1 : t ≥ 1 := by omega
   have j2 : ¬ (t ≤ 65535) := by omega
   go_enter Tryz.func109, Tryz.ntmps109
   go_wp2_with fail
   go_ret
   exact ⟨rfl, by go_grown⟩
 ·rw [hd_f (by omega)]
  have j1 : ¬ (t ≥ 1) := by omega
  go_enter Tryz.func109, Tryz.ntmps109
  go_wp2_with fail
  go_ret
  exact ⟨rfl, by go_grown⟩
theorem refRight_any_oc (t s n : Int) (w : World) (hn : 0 ≤ n) : Calls Tryz.prog 67 #[nV t s n] w fun e w' => e = .returned (.bool (hdB t s n)) ∧ Below w.heap.size w w' := by
 unfold nV
 by_cases k1 : 1 ≤ t
 ·by_cases k2 : t ≤ 65535
  ·by_cases k3 : 0 ≤ s
   ·by_cases k4 : s ≤ 4096
    ·by_cases k5 : n = 0
     ·rw [hd_f (by omega)]
      subst k5
      clear hn
      have j1 : t > 0 := by omega
      have j2 : t < 65536 := by omega
      go_enter Tryz.func67, Tryz.ntmps67
      go_wp2_with fail
      go_ret
      exact ⟨rfl, by go_grown⟩
     ·rw [hd_t.2 ⟨k1, k2, k3, k4, k5⟩]
      have j1 : t > 0 := by omega
      have j2 : t < 65536 := by omega
      have j5 : 0 < n := by omega
      go_enter Tryz.func67, Tryz.ntmps67
      go_wp2_with fail
      go_ret
      exact ⟨by first | rfl | (refine ret_b ?_; first | (simp; omega) | (simp [k5]; done)), by go_grown⟩
    ·rw [hd_f (by omega)]
     have j1 : t > 0 := by omega
     have j2 : t < 65536 := by omega
     have k4' : 4096 < s := by omega
     go_enter Tryz.func67, Tryz.ntmps67
     go_wp2_with fail
     go_ret
     exact ⟨rfl, by go_grown⟩
   ·rw [hd_f (by omega)]
    have j1 : t > 0 := by omega
    have j2 : t < 65536 := by omega
    have k3' : s < 0 := by omega
    go_enter Tryz.func67, Tryz.ntmps67
    go_wp2_with fail
    go_ret
    exact ⟨rfl, by go_grown⟩
  ·rw [hd_f (by omega)]
   have j1 : t > 0 := by omega
   have j2 : ¬ (t < 65536) := by omega
   go_enter Tryz.func67, Tryz.ntmps67
   go_wp2_with fail
   go_ret
   exact ⟨rfl, by go_grown⟩
 ·rw [hd_f (by omega)]
  have j1 : ¬ (t > 0) := by omega
  go_enter Tryz.func67, Tryz.ntmps67
  go_wp2_with fail
  go_ret
  exact ⟨rfl, by go_grown⟩
theorem pI1 {t : Nat} (h : t < 65536) : putI 0 0 16 (t : Nat) = (t : Int) := by
 unfold putI; rw [show (0 : Int).toNat = 0 from rfl, show (16 : Int).toNat = 16 from rfl, Int.toNat_natCast, put1 h]
theorem pI2 {t s : Nat} (h : t < 65536) (hs : s < 65536) : putI (t : Nat) 16 16 (s : Nat) = ((t + 65536 * s : Nat) : Int) := by
 unfold putI; rw [show (16 : Int).toNat = 16 from rfl, Int.toNat_natCast, Int.toNat_natCast, put2 h hs]
theorem pI3 {t s : Nat} (h : t < 65536) (hs : s < 65536) : putI ((t + 65536 * s : Nat) : Int) 48 16 64087 = ((hdW t s : Nat) : Int) := by
 unfold putI; rw [show (16 : Int).toNat = 16 from rfl, show (48 : Int).toNat = 48 from rfl, show (64087 : Int).toNat = 64087 from rfl, Int.toNat_natCast, put3 (by omega)]; rfl
theorem first_any_oc (t s : Nat) (n : Int) (w : World) (h : t < 65536) (hs : s < 65536) : Calls Tryz.prog 110 #[nV t s n] w fun e w' => e = .returned (.int .u64 (hdW t s : Nat)) ∧ Below w.heap.size w w' := by
 unfold nV
 have c1 : IntKind.u64.wrap (t : Int) = (t : Int) := by rw [IntKind.wrap_u64]; omega
 have c2 : IntKind.u64.wrap (s : Int) = (s : Int) := by rw [IntKind.wrap_u64]; omega
 have hP1 := lh (fun w => put_yes 0 0 16 (t : Nat) w (by omega) (by omega) (by omega) (by omega) (by omega) (by omega) (by omega) (by omega))
 have hP2 := lh (fun w => put_yes (t : Nat) 16 16 (s : Nat) w (by omega) (by omega) (by omega) (by omega) (by omega) (by omega) (by omega) (by omega))
 have hP3 := lh (fun w => put_yes ((t + 65536 * s : Nat) : Int) 48 16 64087 w (by omega) (by omega) (by omega) (by omega) (by omega) (by omega) (by omega) (by omega))
 rw [pI1 h] at hP1
 rw [pI2 h hs] at hP2
 rw [pI3 h hs] at hP3
 obtain ⟨x, hx⟩ : ∃ x : Nat, t + 65536 * s = x := ⟨_, rfl⟩
 obtain ⟨y, hy⟩ : ∃ y : Nat, hdW t s = y := ⟨_, rfl⟩
 rw [hx] at hP2 hP3
 rw [hy] at hP3 ⊢
 clear hx hy h hs
 go_enter Tryz.func110, Tryz.ntmps110
 go_wp2_with fail
 refine (hP1.out _).mono ?_
 rintro e w1 ⟨rfl, rfl⟩
 go_wp2_with fail
 refine (hP2.out _).mono ?_
 rintro e w1 ⟨rfl, rfl⟩
 go_wp2_with fail
 refine (hP3.out _).mono ?_
 rintro e w1 ⟨rfl, rfl⟩
 go_wp2_with fail
 go_ret
 exact ⟨rfl, by go_grown⟩
end Go.Proofs.YtdmmbnnejbmdpaaGreatDoor
end
