/-
  The law GeoTells: a walk.
-/
import Derived.Test.YtalplklaepbaeaaGeo7
set_option linter.unusedVariables false
namespace Go.Proofs.Ytalplklaepbaeaa
open Go.RowKit

set_option maxHeartbeats 2000000 in
theorem geoTells_tt_big (W L l i : Int) (w : World) (g : gOk W L = true) (h : lOk W L l = true) (c1 : 0 ≤ i) (c2 : gN W L ≤ i) :
    Calls Try.prog 3 #[.agg #[.int .i64 W, .int .i64 L], .int .i64 l, .int .i64 i] w fun e w' => e = .returned (.bool true) ∧ Below w.heap.size w w' := by
  have G := Lib.hid g
  have H := Lib.hid h
  clear g h
  go_enter Try.func3, Try.ntmps3
  go_wp2_with fail
  refine (awake_any _).mono ?_
  rintro e w1 ⟨rfl, hb1⟩
  have k1 := (C2.new w (.int .i64 W) (.int .i64 L) 23).keep hb1
  have hB1 : Below w.heap.size w w1 := ((Below.refl _ _).alloc (Nat.le_refl _) _).trans (hb1.mono (by simp))
  have lt1 := k1.lt
  obtain ⟨x0, x1⟩ := id k1
  go_wp2_with fail
  go_region_held3 (fun w' => w'.cell? ⟨w.heap.size, 0, none⟩ = some (.int .i64 W) ∧ w'.cell? ⟨w.heap.size, 1, none⟩ = some (.int .i64 L) ∧ w.heap.size < w'.heap.size ∧ Below w.heap.size w w')
    (((try go_split_ands); refine ⟨?_, ?_, ?_, ?_⟩ <;> first
      | (rw [hb.cell (by assumption)]; assumption) | assumption | (have := hb.size; omega) | (exact Below.trans (by assumption) (hb.mono (Nat.le_of_lt (by assumption))))
      | (go_keep; done) | (go_grown; done)))
    ((first | (go_at_call 9; refine (right_t W L _ G.out).mono ?_; rintro e w4 ⟨rfl, hb⟩) | (go_at_call 10; refine (refRight_t W L _ G.out).mono ?_; rintro e w4 ⟨rfl, hb⟩) | (go_at_call 11; refine (chunks_t W L _ G.out).mono ?_; rintro e w4 ⟨rfl, hb⟩) | (go_at_call 12; refine (refChunks_t W L _ G.out).mono ?_; rintro e w4 ⟨rfl, hb⟩) | (go_at_call 19; refine (table_t W L _ G.out).mono ?_; rintro e w4 ⟨rfl, hb⟩) | (go_at_call 20; refine (refTable_t W L _ G.out).mono ?_; rintro e w4 ⟨rfl, hb⟩) | (go_at_call 13; refine (mark_t W L l _ H.out).mono ?_; rintro e w4 ⟨rfl, hb⟩) | (go_at_call 14; refine (refMark_t W L l _ H.out).mono ?_; rintro e w4 ⟨rfl, hb⟩) | (go_at_call 15; refine (log_t W L l _ H.out).mono ?_; rintro e w4 ⟨rfl, hb⟩) | (go_at_call 16; refine (refLog_t W L l _ H.out).mono ?_; rintro e w4 ⟨rfl, hb⟩) | (go_at_call 17; refine (redo_t W L l _ H.out).mono ?_; rintro e w4 ⟨rfl, hb⟩) | (go_at_call 18; refine (refRedo_t W L l _ H.out).mono ?_; rintro e w4 ⟨rfl, hb⟩) | (go_at_call 21; refine (chunk_big W L i _ G.out c1 c2).mono ?_; rintro e w4 ⟨rfl, hb⟩) | (go_at_call 22; refine (refChunk_big W L i _ G.out c1 c2).mono ?_; rintro e w4 ⟨rfl, hb⟩)))
  go_wp2_with fail
  go_ret
  go_split_ands
  exact ⟨rfl, by assumption⟩

end Go.Proofs.Ytalplklaepbaeaa
