/-
  PROVED: 'lockfastlaw05.GeoTells' returns true for every input; each argument reads afterwards as it read before. No condition.
-/
import Derived.Test.YtalplklaepbaeaaGeoTttyes
import Derived.Test.YtalplklaepbaeaaGeoTttneg
import Derived.Test.YtalplklaepbaeaaGeoTttbig
import Derived.Test.YtalplklaepbaeaaGeoTtfyes
import Derived.Test.YtalplklaepbaeaaGeoTtfneg
import Derived.Test.YtalplklaepbaeaaGeoTtfbig
import Derived.Test.YtalplklaepbaeaaGeoTfffneg
import Derived.Test.YtalplklaepbaeaaGeoTfffpos
import Derived.Lib.SmallJoins
namespace Go.Proofs.Ytalplklaepbaeaa.lawGeoTells
open Go.ChangeShapes Go.WideShapes Go.ChangeAt Go.RowKit Go.Joins
set_option linter.unusedVariables false

theorem own : ownKnob Try.prog.godebug = none := by kernel_rfl
theorem cells0 : Try.prog.cellsOf 23 = 2 := by kernel_rfl

theorem walk (a00 a01 a1 a2 : Int) (w00 : (Lit.int .i64 a00).wf = true) (w01 : (Lit.int .i64 a01).wf = true) (w1 : (Lit.int .i64 a1).wf = true) (w2 : (Lit.int .i64 a2).wf = true) (w : World) :
    Calls Try.prog 3 #[.agg #[.int .i64 a00, .int .i64 a01], .int .i64 a1, .int .i64 a2] w fun e w' => e = .returned (.bool true) ∧ Below w.heap.size w w' := by
  have b00 := bounds_i64 w00
  have b01 := bounds_i64 w01
  have b1 := bounds_i64 w1
  have b2 := bounds_i64 w2
  by_cases g : gOk a00 a01 = true
  · by_cases h : lOk a00 a01 a1 = true
    · by_cases c1 : a2 < 0
      · exact geoTells_tt_neg a00 a01 a1 a2 w g h c1
      · by_cases c2 : a2 < gN a00 a01
        · exact geoTells_tt_yes a00 a01 a1 a2 w g h (by omega) c2
        · exact geoTells_tt_big a00 a01 a1 a2 w g h (by omega) (by omega)
    · have h : lOk a00 a01 a1 = false := by simpa using h
      by_cases c1 : a2 < 0
      · exact geoTells_tf_neg a00 a01 a1 a2 w g h c1
      · by_cases c2 : a2 < gN a00 a01
        · exact geoTells_tf_yes a00 a01 a1 a2 w g h (by omega) c2
        · exact geoTells_tf_big a00 a01 a1 a2 w g h (by omega) (by omega)
  · have g : gOk a00 a01 = false := by simpa using g
    have h : lOk a00 a01 a1 = false := by simp [lOk, g]
    by_cases c1 : a2 < 0
    · exact geoTells_ff_fneg a00 a01 a1 a2 w g h c1
    · exact geoTells_ff_fpos a00 a01 a1 a2 w g h (by omega)

set_option maxRecDepth 100000 in
theorem lifted (os : Os) (started : os.Started) (H : Type) (enc : TypeId × Value → H) :
    ReturnsInHanded {} Try.checked os 3 .any (Rows.geoTellsSpec.pre6 enc Try.prog Try.f3 Rows.geoTellsRow.domain false) (Rows.geoTellsSpec.post enc Try.prog Try.f3 false true false false) := by
  refine returnsInHanded_of_change (C := Try.checked) own started (by kernel_rfl) Try.func3
    (ChangeSpec.witness6 (enc := enc) (C := Try.checked) false ⟨#[], #[.agg #[.int .i64 0, .int .i64 0], .int .i64 0, .int .i64 0], []⟩ 8 (by kernel_rfl) (by kernel_rfl) (by kernel_rfl) (by kernel_rfl)) ?_
  intro W base args ds gs before hval0 hW hcnd _
  have hval : ∀ (j : Nat) t v, Try.f3.params[j]? = some t → args[j]? = some v → Value.okWide Try.prog W .any base t v := hval0
  have hW' := hW
  obtain ⟨p, q, hA0, hV, rfl, hfz, hnd⟩ := hW
  have hA : DataW.TrodAll enc Try.prog W 0 (fun _ => true) true Try.f3.params.toList args.toList ds p := hA0
  rw [Try.params3] at hA hval
  obtain ⟨v0, vs0, d0, ds0, p0, q0, hargs, rfl, rfl, h0, r0⟩ := trodAll_cons hA
  obtain ⟨v1, vs1, d1, ds1, p1, q1, rfl, rfl, rfl, h1, r1⟩ := trodAll_cons r0
  obtain ⟨v2, vs2, d2, ds2, p2, q2, rfl, rfl, rfl, h2, r2⟩ := trodAll_cons r1
  obtain ⟨rfl, rfl, rfl⟩ := trodAll_nil r2
  obtain rfl : args = #[v0, v1, v2] := by cases args; simp_all
  obtain ⟨rfl, rfl⟩ := trodVars_none hV
  obtain ⟨c00, c01, y00, y01, m0, rfl, rfl, rfl, hy00, hy01⟩ := open_agg2 Try.underlying23 (by kernel_rfl) cells0 (hval 0 23 v0 rfl rfl) h0
  obtain ⟨a00, e00, rfl, w00⟩ := DataW.trod_int Try.underlying3 hy00
  obtain ⟨a01, e01, rfl, w01⟩ := DataW.trod_int Try.underlying3 hy01
  simp only [List.cons.injEq, and_true] at e00 e01
  subst e00 e01
  have s0 : ∀ (W1 : World) (sp : Nat → Bool), DataW.Trod enc Try.prog W1 0 sp true 23 (.agg #[.int .i64 a00, .int .i64 a01]) (.agg [.lit (.int .i64 a00), .lit (.int .i64 a01)]) [] := fun W1 sp =>
    shut_agg2 (y0 := (.lit (.int .i64 a00), [])) (y1 := (.lit (.int .i64 a01), [])) Try.underlying23 (by kernel_rfl) cells0 ⟨1, by simp [DataW.trod, Try.underlying3, w00]⟩ ⟨1, by simp [DataW.trod, Try.underlying3, w01]⟩
  obtain ⟨a1, rfl, rfl, rfl, w1⟩ := open_int Try.underlying3 (hval 1 3 v1 rfl rfl) h1
  obtain ⟨a2, rfl, rfl, rfl, w2⟩ := open_int Try.underlying3 (hval 2 3 v2 rfl rfl) h2
  clear hA0 hval0
  simp only [List.append_nil] at hW'
  refine (walk a00 a01 a1 a2 w00 w01 w1 w2 W).mono fun e W' ⟨he, hg⟩ => ?_
  subst he
  exact ⟨_, rfl, post_of_below (pa := []) (pv := []) hW' (fun _ _ _ => (trodAll_cons_mk (shut_bool Try.underlying4 _) trodAll_mk0)) (fun sp _ => (trodAll_cons_mk (s0 _ sp) (trodAll_cons_mk (shut_int Try.underlying3 w1) (trodAll_cons_mk (shut_int Try.underlying3 w2) trodAll_mk0)))) (fun _ _ => rfl) rfl
    hg (ok_one (by kernel_rfl) rfl (okWide_bool_mk Try.underlying4 _))⟩

theorem over : Rows.geoTellsRow.holds Try.pinned (OpenSpec.ofChange Rows.geoTellsSpec) :=
  OpenClaim.holds_of_wide 3 Try.f3 rfl rfl rfl rfl rfl rfl rfl ⟨rfl, rfl, rfl, rfl, rfl⟩ rfl rfl rfl rfl rfl (by kernel_rfl) Try.func3 (by kernel_rfl)
    (of_decide_eq_true (by kernel_rfl)) (by unfold Func.isWrapper; first | (rw [if_pos (by decide +kernel)]; kernel_rfl) | (rw [if_neg (by decide +kernel)]; exact ⟨rfl, rfl⟩))
    (fun os started H enc _ => lifted os started H enc)

theorem proved : Rows.GeoTellsSaid :=
  over
#print axioms proved
end Go.Proofs.Ytalplklaepbaeaa.lawGeoTells
