/-
  PROVED: 'lockfastlaw12.RedoApplies' returns true for every input; each argument reads afterwards as it read before. No condition.
-/
import Derived.Test.YtibhahbimoiaaaaRd12
import Derived.Test.YtibhahbimoiaaaaRdO
import Derived.Lib.SmallJoins
set_option linter.unusedVariables false
namespace Go.Proofs.Ytibhahbimoiaaaa.lawRedoApplies
open Go.ChangeShapes Go.WideShapes Go.ChangeAt Go.RowKit Go.Joins

theorem own : ownKnob Try.prog.godebug = none := by kernel_rfl
theorem laidOut : laidOutB Try.prog = true := by kernel_rfl

theorem walk (w : World) (v0 : Value) (l0 : List Nat) (v1 : Value) (l1 : List Ox) (a2 : Int) (a30 a31 a32 : Int) (a4 : Int) (w0 : WL l0) (s0 : KL .u64 w v0 l0) (w1 : OL l1) (s1 : OPL w v1 l1) (w2 : (Lit.int .u64 a2).wf = true) (w30 : (Lit.int .i64 a30).wf = true) (w31 : (Lit.int .i64 a31).wf = true) (w32 : (Lit.int .u64 a32).wf = true) (w4 : (Lit.int .i64 a4).wf = true) :
    Calls Try.prog 5 #[v0, v1, .int .u64 a2, .agg #[.int .i64 a30, .int .i64 a31, .int .u64 a32], .int .i64 a4] w fun e w' => e = .returned (.bool true) ∧ Below w.heap.size w w' := by
  have b2 := bounds_u64 w2
  have b30 := bounds_i64 w30
  have b31 := bounds_i64 w31
  have b32 := bounds_u64 w32
  have b4 := bounds_i64 w4
  obtain ⟨n2, rfl⟩ := Int.eq_ofNat_of_zero_le (show 0 ≤ a2 by omega)
  obtain ⟨n32, rfl⟩ := Int.eq_ofNat_of_zero_le (show 0 ≤ a32 by omega)
  exact redoApplies v0 v1 l0 l1 n2 a30 a31 n32 a4 w w0 s0 w1.ov w1.1 s1 (by omega) (by omega)

set_option maxRecDepth 100000 in
theorem lifted (os : Os) (started : os.Started) (H : Type) (enc : TypeId × Value → H) :
    ReturnsInHanded {} Try.checked os 5 .any (Rows.redoAppliesSpec.pre6 enc Try.prog Try.f5 Rows.redoAppliesRow.domain false) (Rows.redoAppliesSpec.post enc Try.prog Try.f5 false true false false) := by
  refine returnsInHanded_of_change (C := Try.checked) own started (by kernel_rfl) Try.func5
    (ChangeSpec.witness6 (enc := enc) (C := Try.checked) false ⟨#[], #[.slice none 0 0, .slice none 0 0, .int .u64 0, .agg #[.int .i64 0, .int .i64 0, .int .u64 0], .int .i64 0], []⟩ 8 (by kernel_rfl) (by kernel_rfl) (by kernel_rfl) (by kernel_rfl)) ?_
  intro W base args ds gs before hval0 hW hcnd _
  have hval : ∀ (j : Nat) t v, Try.f5.params[j]? = some t → args[j]? = some v → Value.okWide Try.prog W .any base t v := hval0
  have hW' := hW
  obtain ⟨p, q, hA0, hV, rfl, hfz, hnd⟩ := hW
  have hA : DataW.TrodAll enc Try.prog W 0 (fun _ => true) true Try.f5.params.toList args.toList ds p := hA0
  rw [Try.params5] at hA hval
  obtain ⟨v0, vs0, d0, ds0, p0, q0, hargs, rfl, rfl, h0, r0⟩ := trodAll_cons hA
  obtain ⟨v1, vs1, d1, ds1, p1, q1, rfl, rfl, rfl, h1, r1⟩ := trodAll_cons r0
  obtain ⟨v2, vs2, d2, ds2, p2, q2, rfl, rfl, rfl, h2, r2⟩ := trodAll_cons r1
  obtain ⟨v3, vs3, d3, ds3, p3, q3, rfl, rfl, rfl, h3, r3⟩ := trodAll_cons r2
  obtain ⟨v4, vs4, d4, ds4, p4, q4, rfl, rfl, rfl, h4, r4⟩ := trodAll_cons r3
  obtain ⟨rfl, rfl, rfl⟩ := trodAll_nil r4
  obtain rfl : args = #[v0, v1, v2, v3, v4] := by cases args; simp_all
  obtain ⟨rfl, rfl⟩ := trodVars_none hV
  have hlt := hW'.lt
  have k0 : ∀ W1 : World, Below W.heap.size W W1 → ∀ sp : Nat → Bool, (∀ x ∈ p0, sp x.block = true) → DataW.Trod enc Try.prog W1 0 sp true 24 v0 d0 p0 := fun W1 hb sp hsp => WideElems.Trod_stays laidOut (by kernel_rfl) (of_decide_eq_true (by kernel_rfl)) h0 (fun x hx => hb.same (hlt x (by simp [hx]))) hsp
  have k1 : ∀ W1 : World, Below W.heap.size W W1 → ∀ sp : Nat → Bool, (∀ x ∈ p1, sp x.block = true) → DataW.Trod enc Try.prog W1 0 sp true 22 v1 d1 p1 := fun W1 hb sp hsp => WideElems.Trod_stays laidOut (by kernel_rfl) (of_decide_eq_true (by kernel_rfl)) h1 (fun x hx => hb.same (hlt x (by simp [hx]))) hsp
  have k2 : ∀ W1 : World, Below W.heap.size W W1 → ∀ sp : Nat → Bool, (∀ x ∈ p2, sp x.block = true) → DataW.Trod enc Try.prog W1 0 sp true 33 v2 d2 p2 := fun W1 hb sp hsp => WideElems.Trod_stays laidOut (by kernel_rfl) (of_decide_eq_true (by kernel_rfl)) h2 (fun x hx => hb.same (hlt x (by simp [hx]))) hsp
  have k3 : ∀ W1 : World, Below W.heap.size W W1 → ∀ sp : Nat → Bool, (∀ x ∈ p3, sp x.block = true) → DataW.Trod enc Try.prog W1 0 sp true 38 v3 d3 p3 := fun W1 hb sp hsp => WideElems.Trod_stays laidOut (by kernel_rfl) (of_decide_eq_true (by kernel_rfl)) h3 (fun x hx => hb.same (hlt x (by simp [hx]))) hsp
  have k4 : ∀ W1 : World, Below W.heap.size W W1 → ∀ sp : Nat → Bool, (∀ x ∈ p4, sp x.block = true) → DataW.Trod enc Try.prog W1 0 sp true 3 v4 d4 p4 := fun W1 hb sp hsp => WideElems.Trod_stays laidOut (by kernel_rfl) (of_decide_eq_true (by kernel_rfl)) h4 (fun x hx => hb.same (hlt x (by simp [hx]))) hsp
  obtain ⟨ad0, len0, cap0, rfl⟩ := okWide_slice Try.underlying24 (hval 0 24 v0 rfl rfl)
  obtain ⟨l0, wl0, sl0⟩ := wordsK_open Try.underlying24 Try.underlying33 (by kernel_rfl) h0
  obtain ⟨ad1, len1, cap1, rfl⟩ := okWide_slice Try.underlying22 (hval 1 22 v1 rfl rfl)
  obtain ⟨l1, wl1, sl1⟩ := ops_open h1
  obtain ⟨a2, rfl, rfl, rfl, w2⟩ := open_int Try.underlying33 (hval 2 33 v2 rfl rfl) h2
  obtain ⟨c30, c31, c32, y30, y31, y32, m3, rfl, rfl, rfl, hy30, hy31, hy32⟩ := open_agg3 Try.underlying38 (by kernel_rfl) (by kernel_rfl) (hval 3 38 v3 rfl rfl) h3
  obtain ⟨a30, e30, rfl, w30⟩ := DataW.trod_int Try.underlying3 hy30
  obtain ⟨a31, e31, rfl, w31⟩ := DataW.trod_int Try.underlying3 hy31
  obtain ⟨a32, e32, rfl, w32⟩ := DataW.trod_int Try.underlying33 hy32
  simp only [List.cons.injEq, and_true] at e30 e31 e32
  subst e30 e31 e32
  obtain ⟨a4, rfl, rfl, rfl, w4⟩ := open_int Try.underlying3 (hval 4 3 v4 rfl rfl) h4
  refine (walk W _ l0 _ l1 a2 a30 a31 a32 a4 wl0 sl0 wl1 sl1 w2 w30 w31 w32 w4).mono fun e W' ⟨he, hg⟩ => ?_
  subst he
  exact ⟨_, rfl, post_of_below_any (pv := []) hW' (fun _ _ _ => (trodAll_cons_mk (shut_bool Try.underlying4 _) trodAll_mk0)) (fun sp hsp => (trodAll_cons_mk (k0 W' hg sp (fun x hx => hsp x (by simp [hx]))) (trodAll_cons_mk (k1 W' hg sp (fun x hx => hsp x (by simp [hx]))) (trodAll_cons_mk (k2 W' hg sp (fun x hx => by simp at hx)) (trodAll_cons_mk (k3 W' hg sp (fun x hx => by simp at hx)) (trodAll_cons_mk (k4 W' hg sp (fun x hx => by simp at hx)) trodAll_mk0)))))) (fun _ _ => rfl) rfl
    hg (ok_one (by kernel_rfl) rfl (okWide_bool_mk Try.underlying4 _))⟩

theorem over : Rows.redoAppliesRow.holds Try.pinned (OpenSpec.ofChange Rows.redoAppliesSpec) :=
  OpenClaim.holds_of_wide 5 Try.f5 rfl rfl rfl rfl rfl rfl rfl ⟨rfl, rfl, rfl, rfl, rfl⟩ rfl rfl rfl rfl rfl (by kernel_rfl) Try.func5 (by kernel_rfl)
    (of_decide_eq_true (by kernel_rfl)) (by unfold Func.isWrapper; first | (rw [if_pos (by decide +kernel)]; kernel_rfl) | (rw [if_neg (by decide +kernel)]; exact ⟨rfl, rfl⟩))
    (fun os started H enc _ => lifted os started H enc)

theorem proved : Rows.RedoAppliesSaid :=
  over
#print axioms proved
end Go.Proofs.Ytibhahbimoiaaaa.lawRedoApplies
