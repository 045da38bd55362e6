/-
  Part of the proof of SoundApart,SoundTwins,SoundWords.
-/
import Derived.Test.YtdmmbnnejbmdpaaGreatDoorVt97
import Derived.Test.YtdmmbnnejbmdpaaGreatDoorVt90
set_option maxRecDepth 10000
set_option maxHeartbeats 400000
set_option linter.unusedVariables false
set_option linter.unusedSimpArgs false
namespace Go.Proofs.YtdmmbnnejbmdpaaGreatDoor
open Go.RowKit
theorem room_ok (W L : Int) (w : World) (h : gOk W L = true) :
 Calls Tryz.prog 100 #[.agg #[.int .i64 W, .int .i64 L]] w fun e w' => e = .returned (.int .i64 (gN W L)) ∧ Below w.heap.size w w' := by
 obtain ⟨h1, h2, h3, h4⟩ := gOk_t h
 have e : (W - (10 + 73 * L)).tdiv 33 = gN W L := by rw [Int.tdiv_eq_ediv_of_nonneg (by omega)]; rfl
 rw [← e]
 exact room_any W L w h1 h2 (by omega) h3
theorem table_t (W L : Int) (w : World) (h : gOk W L = true) :
 Calls Tryz.prog 97 #[.agg #[.int .i64 W, .int .i64 L]] w fun e w' => e = .returned (.agg #[.int .i64 (10 + 73 * L), .int .i64 (gN W L)]) ∧ Below w.heap.size w w' := by
 obtain ⟨h1, h2, _, _⟩ := gOk_t h
 have H := lh h
 clear h
 go_enter Tryz.func97, Tryz.ntmps97
 go_wp2_with fail
 refine (right_t W L _ H.out).mono ?_
 rintro e w1 ⟨rfl, hb1⟩
 have j1 := ((C2.new w (.int .i64 W) (.int .i64 L) 51).alloc (.cells #[.int .i64 0, .int .i64 0] 57)).keep hb1
 have k1 := (C2.new (w.alloc (.cells #[.int .i64 W, .int .i64 L] 51)) (.int .i64 0) (.int .i64 0) 57).keep hb1
 have f1 := (F2.new (w.alloc (.cells #[.int .i64 W, .int .i64 L] 51)) (.int .i64 0) (.int .i64 0) 57).keep (by simp) hb1
 simp only [World.size_alloc] at k1 f1
 have lt1 := j1.lt
 have lt2 := k1.lt
 obtain ⟨c0, c1⟩ := id k1
 obtain ⟨d0, d1⟩ := id j1
 obtain ⟨g0, g1⟩ := id f1
 have hB : Below w.heap.size w w1 := ((bZ _ _).alloc (by simp) _).trans (hb1.mono (by simp; omega))
 go_wp2_with fail
 go_region_with (first
  | (go_at_call 116; refine (table_any W L _ h1 h2).mono ?_; rintro e w6 ⟨rfl, hb⟩; have BB : Below w.heap.size w w6 := (by first | exact BB.trans (hb.mono (Nat.le_of_lt jj.lt)) | exact hB.drew.trans (hb.mono (Nat.le_of_lt j1.drew.lt)) | exact hB.trans (hb.mono (Nat.le_of_lt j1.lt))); have jj : C2 w6 w.heap.size (.int .i64 W) (.int .i64 L) := (by first | exact jj.keep hb | exact j1.drew.keep hb | exact j1.keep hb); have ff : F2 w6 (w.heap.size + 1) := (by first | exact ff.keep kk.lt hb | exact f1.drew.keep k1.drew.lt hb | exact f1.keep k1.lt hb); have kk : C2 w6 (w.heap.size + 1) (.int .i64 0) (.int .i64 0) := (by first | exact kk.keep hb | exact k1.drew.keep hb | exact k1.keep hb); obtain ⟨d0, d1⟩ := id jj; obtain ⟨c0, c1⟩ := id kk; obtain ⟨g0, g1⟩ := id ff)
  | (go_at_call 100; refine (room_ok W L _ H.out).mono ?_; rintro e w7 ⟨rfl, hb⟩; have BB : Below w.heap.size w w7 := (by first | exact BB.trans (hb.mono (Nat.le_of_lt jj.lt)) | exact hB.drew.trans (hb.mono (Nat.le_of_lt j1.drew.lt)) | exact hB.trans (hb.mono (Nat.le_of_lt j1.lt))); have jj : C2 w7 w.heap.size (.int .i64 W) (.int .i64 L) := (by first | exact jj.keep hb | exact j1.drew.keep hb | exact j1.keep hb); have ff : F2 w7 (w.heap.size + 1) := (by first | exact ff.keep kk.lt hb | exact f1.drew.keep k1.drew.lt hb | exact f1.keep k1.lt hb); have kk : C2 w7 (w.heap.size + 1) (.int .i64 0) (.int .i64 0) := (by first | exact kk.keep hb | exact k1.drew.keep hb | exact k1.keep hb); obtain ⟨d0, d1⟩ := id jj; obtain ⟨c0, c1⟩ := id kk; obtain ⟨g0, g1⟩ := id ff))
 all_goals
  go_wp2_with fail
  refine bodyPost_ret (v := .agg #[.int .i64 (10 + 73 * L), .int .i64 (gN W L)]) (by simp [results, Tryz.results97, go_sem, c0, c1]) rfl ⟨rfl, ?_⟩
  exact (BB.setCell (by simp) _).setCell (by simp) _
end Go.Proofs.YtdmmbnnejbmdpaaGreatDoor
