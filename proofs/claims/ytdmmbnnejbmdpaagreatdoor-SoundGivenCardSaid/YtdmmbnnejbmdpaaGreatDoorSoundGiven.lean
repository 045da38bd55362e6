/-
  Part of the proof of SoundTells,SoundGiven.
-/
import Derived.Test.YtdmmbnnejbmdpaaGreatDoorVu95
import Derived.Test.YtdmmbnnejbmdpaaGreatDoorVu950
import Derived.Test.YtdmmbnnejbmdpaaGreatDoorCards
import Derived.Test.YtdmmbnnejbmdpaaGreatDoorTie
import Derived.Deep.DeepHandedRow
import Derived.Lib.LaidTab
import Derived.Lib.SmallJoins
import Derived.Test.YtdmmbnnejbmdpaaGreatDoorVu90
set_option maxRecDepth 100000
set_option linter.unusedVariables false
set_option linter.unusedSimpArgs false
namespace Go.Proofs.YtdmmbnnejbmdpaaGreatDoor.lawSoundGiven
open Go.ChangeShapes Go.WideShapes Go.ChangeAt Go.RowKit Go.Joins
theorem own : ownKnob Tryz.prog.godebug = none := by kernel_rfl
theorem laidOut : laidOutB Tryz.prog = true := by kernel_rfl
theorem walk (w : World) (hw : Lw w) (g0 : Gx) (w0 : GOk w g0) :
 Calls Tryz.prog 4 #[gxV g0] w fun e w' => e = .returned (.bool true) ∧ Below w.heap.size w w' := by
 skip
 exact soundGiven g0 refSound_any w hw w0
theorem contract (H : Type) (enc : TypeId × Value → H) (W : World) (base : Nat) (args : Array Value) (ds gs : List (DataW H)) (before : List MemPlace)
 (hval : ∀ (j : Nat) t v, Tryz.f4.params[j]? = some t → args[j]? = some v → Value.okWide Tryz.prog W .any base t v)
 (hW : DataW.Whole enc Tryz.prog Tryz.f4.params.toList Rows.soundGivenSpec.vars false W args.toList ds gs before) (hL : laidMetH Tryz.prog Rows.soundGivenRow.laid W) :
 Calls Tryz.prog 4 args W fun e W' => ∃ v, e = .returned v ∧ Rows.soundGivenSpec.post enc Tryz.prog Tryz.f4 false true false false W args v W' := by
 have hW' := hW
 obtain ⟨p, q, hA0, hV, rfl, hfz, hnd⟩ := hW
 have hA : DataW.TrodAll enc Tryz.prog W 0 (fun _ => true) true Tryz.f4.params.toList args.toList ds p := hA0
 rw [Tryz.params4] at hA hval
 obtain ⟨v0, vs0, d0, ds0, p0, q0, hargs, rfl, rfl, h0, r0⟩ := trodAll_cons hA
 obtain ⟨rfl, rfl, rfl⟩ := trodAll_nil r0
 obtain rfl : args = #[v0] := by cases args; simp_all
 obtain ⟨rfl, rfl⟩ := trodVars_none hV
 have hlt := hW'.lt
 have k0 : ∀ W1 : World, Below W.heap.size W W1 → ∀ sp : Nat → Bool, (∀ x ∈ p0, sp x.block = true) → DataW.Trod enc Tryz.prog W1 0 sp true 47 v0 d0 p0 := fun W1 hb sp hsp => WideElems.Trod_stays laidOut (by kernel_rfl) (of_decide_eq_true (by kernel_rfl)) h0 (fun x hx => hb.same (hlt x (by simp [hx]))) hsp
 obtain ⟨g0, w0, rfl⟩ := given_open (hval 0 47 v0 rfl rfl) h0
 have hM0 : laidMet Tryz.prog [("math/bits.deBruijn64tab", Lib.tabData .u8 [0, 1, 56, 2, 57, 49, 28, 3, 61, 58, 42, 50, 38, 29, 17, 4, 62, 47, 59, 36, 45, 43, 51, 22, 53, 39, 33, 30, 24, 18, 12, 5, 63, 55, 48, 27, 60, 41, 37, 16, 46, 35, 44, 21, 52, 32, 23, 11, 54, 26, 40, 15, 34, 20, 31, 10, 25, 14, 19, 9, 13, 8, 7, 6]), ("lockfast/class.blocks", Lib.tabData .i64 [4, 8, 16]), ("lockfast/chunk.kindPlace", .agg [.lit (.int .i64 0), .lit (.int .i64 3)]), ("lockfast/chunk.classPlace", .agg [.lit (.int .i64 3), .lit (.int .i64 2)]), ("lockfast/chunk.lanePlace", .agg [.lit (.int .i64 5), .lit (.int .i64 6)]), ("lockfast/chunk.manyPlace", .agg [.lit (.int .i64 11), .lit (.int .i64 13)]), ("lockfast/chunk.bitsPlace", .agg [.lit (.int .i64 24), .lit (.int .i64 8)])] W := hL
 have hM1 : laidMet Tryz.prog [("lockfast/class.blocks", Lib.tabData .i64 [4, 8, 16]), ("lockfast/chunk.kindPlace", .agg [.lit (.int .i64 0), .lit (.int .i64 3)]), ("lockfast/chunk.classPlace", .agg [.lit (.int .i64 3), .lit (.int .i64 2)]), ("lockfast/chunk.lanePlace", .agg [.lit (.int .i64 5), .lit (.int .i64 6)]), ("lockfast/chunk.manyPlace", .agg [.lit (.int .i64 11), .lit (.int .i64 13)]), ("lockfast/chunk.bitsPlace", .agg [.lit (.int .i64 24), .lit (.int .i64 8)])] W := laid_tail hM0
 have hM2 : laidMet Tryz.prog [("lockfast/chunk.kindPlace", .agg [.lit (.int .i64 0), .lit (.int .i64 3)]), ("lockfast/chunk.classPlace", .agg [.lit (.int .i64 3), .lit (.int .i64 2)]), ("lockfast/chunk.lanePlace", .agg [.lit (.int .i64 5), .lit (.int .i64 6)]), ("lockfast/chunk.manyPlace", .agg [.lit (.int .i64 11), .lit (.int .i64 13)]), ("lockfast/chunk.bitsPlace", .agg [.lit (.int .i64 24), .lit (.int .i64 8)])] W := laid_tail hM1
 have hM3 : laidMet Tryz.prog [("lockfast/chunk.classPlace", .agg [.lit (.int .i64 3), .lit (.int .i64 2)]), ("lockfast/chunk.lanePlace", .agg [.lit (.int .i64 5), .lit (.int .i64 6)]), ("lockfast/chunk.manyPlace", .agg [.lit (.int .i64 11), .lit (.int .i64 13)]), ("lockfast/chunk.bitsPlace", .agg [.lit (.int .i64 24), .lit (.int .i64 8)])] W := laid_tail hM2
 have hM4 : laidMet Tryz.prog [("lockfast/chunk.lanePlace", .agg [.lit (.int .i64 5), .lit (.int .i64 6)]), ("lockfast/chunk.manyPlace", .agg [.lit (.int .i64 11), .lit (.int .i64 13)]), ("lockfast/chunk.bitsPlace", .agg [.lit (.int .i64 24), .lit (.int .i64 8)])] W := laid_tail hM3
 have hM5 : laidMet Tryz.prog [("lockfast/chunk.manyPlace", .agg [.lit (.int .i64 11), .lit (.int .i64 13)]), ("lockfast/chunk.bitsPlace", .agg [.lit (.int .i64 24), .lit (.int .i64 8)])] W := laid_tail hM4
 have hM6 : laidMet Tryz.prog [("lockfast/chunk.bitsPlace", .agg [.lit (.int .i64 24), .lit (.int .i64 8)])] W := laid_tail hM5
 have tab0 : Lib.TabIs Tryz.prog W "math/bits.deBruijn64tab" .u8 [0, 1, 56, 2, 57, 49, 28, 3, 61, 58, 42, 50, 38, 29, 17, 4, 62, 47, 59, 36, 45, 43, 51, 22, 53, 39, 33, 30, 24, 18, 12, 5, 63, 55, 48, 27, 60, 41, 37, 16, 46, 35, 44, 21, 52, 32, 23, 11, 54, 26, 40, 15, 34, 20, 31, 10, 25, 14, 19, 9, 13, 8, 7, 6] :=
  Lib.tabIs_of_head (show Tryz.prog.globalNamed "math/bits.deBruijn64tab" = some 6 by kernel_rfl) (show (Tryz.prog.globals[6]?).map (·.type) = some 180 by kernel_rfl) Tryz.underlying180 Tryz.underlying5 (show Tryz.prog.cellsOf 5 = 1 by kernel_rfl) (show Tryz.prog.cellsOf 180 = 64 by kernel_rfl) hM0
 have gt0 : Tryz.prog.globalNamed "math/bits.deBruijn64tab" = some 6 := by kernel_rfl
 have hdb : Deb W := fun i hi => by
  have hc := tab0.cell gt0 i (by simpa using hi)
  rw [hc]
  have hall : ∀ j : Fin 64, ([0, 1, 56, 2, 57, 49, 28, 3, 61, 58, 42, 50, 38, 29, 17, 4, 62, 47, 59, 36, 45, 43, 51, 22, 53, 39, 33, 30, 24, 18, 12, 5, 63, 55, 48, 27, 60, 41, 37, 16, 46, 35, 44, 21, 52, 32, 23, 11, 54, 26, 40, 15, 34, 20, 31, 10, 25, 14, 19, 9, 13, 8, 7, 6] : List Int).getD j.val 0 = ((debTab.getD j.val 0 : Nat) : Int) := by decide +kernel
  rw [hall ⟨i, hi⟩]
 have hdl : 6 < W.heap.size := by have := World.block_lt_of_cell? _ _ (hdb 0 (by decide)); simpa using this
 have tab1 : Lib.TabIs Tryz.prog W "lockfast/class.blocks" .i64 [4, 8, 16] :=
  Lib.tabIs_of_head (show Tryz.prog.globalNamed "lockfast/class.blocks" = some 5 by kernel_rfl) (show (Tryz.prog.globals[5]?).map (·.type) = some 173 by kernel_rfl) Tryz.underlying173 Tryz.underlying3 (show Tryz.prog.cellsOf 3 = 1 by kernel_rfl) (show Tryz.prog.cellsOf 173 = 3 by kernel_rfl) hM1
 have gt1 : Tryz.prog.globalNamed "lockfast/class.blocks" = some 5 := by kernel_rfl
 have ht : Tab W := ⟨tab1.cell gt1 0 (by decide), tab1.cell gt1 1 (by decide), tab1.cell gt1 2 (by decide)⟩
 have htl : 5 < W.heap.size := by have := World.block_lt_of_cell? _ _ ht.1; simpa using this
 have hp0 : CC W 0 0 3 := pair_of_head (show Tryz.prog.globalNamed "lockfast/chunk.kindPlace" = some 0 by kernel_rfl) (show (Tryz.prog.globals[0]?).map (·.type) = some 168 by kernel_rfl) Tryz.underlying168 rfl rfl Tryz.underlying3 Tryz.underlying3 (by kernel_rfl) (by kernel_rfl) hM2
 have hp1 : CC W 1 3 2 := pair_of_head (show Tryz.prog.globalNamed "lockfast/chunk.classPlace" = some 1 by kernel_rfl) (show (Tryz.prog.globals[1]?).map (·.type) = some 168 by kernel_rfl) Tryz.underlying168 rfl rfl Tryz.underlying3 Tryz.underlying3 (by kernel_rfl) (by kernel_rfl) hM3
 have hp2 : CC W 2 5 6 := pair_of_head (show Tryz.prog.globalNamed "lockfast/chunk.lanePlace" = some 2 by kernel_rfl) (show (Tryz.prog.globals[2]?).map (·.type) = some 168 by kernel_rfl) Tryz.underlying168 rfl rfl Tryz.underlying3 Tryz.underlying3 (by kernel_rfl) (by kernel_rfl) hM4
 have hp3 : CC W 3 11 13 := pair_of_head (show Tryz.prog.globalNamed "lockfast/chunk.manyPlace" = some 3 by kernel_rfl) (show (Tryz.prog.globals[3]?).map (·.type) = some 168 by kernel_rfl) Tryz.underlying168 rfl rfl Tryz.underlying3 Tryz.underlying3 (by kernel_rfl) (by kernel_rfl) hM5
 have hp4 : CC W 4 24 8 := pair_of_head (show Tryz.prog.globalNamed "lockfast/chunk.bitsPlace" = some 4 by kernel_rfl) (show (Tryz.prog.globals[4]?).map (·.type) = some 168 by kernel_rfl) Tryz.underlying168 rfl rfl Tryz.underlying3 Tryz.underlying3 (by kernel_rfl) (by kernel_rfl) hM6
 have hw : Lw W := ⟨hdb, hdl, ht, htl, hp0, hp1, hp2, hp3, hp4⟩
 refine (walk W hw g0 w0).mono fun e W' ⟨he, hg⟩ => ?_
 subst he
 exact ⟨_, rfl, post_of_below_any (pv := []) hW' (fun _ _ _ => (trodAll_cons_mk (shut_bool Tryz.underlying4 _) trodAll_mk0)) (fun sp hsp => (trodAll_cons_mk (k0 W' hg sp (fun x hx => hsp x (by first | (simp at hx; done) | simp [hx] | simp_all))) trodAll_mk0)) (fun _ _ => rfl) rfl
  hg (ok_one (by kernel_rfl) rfl (okWide_bool_mk Tryz.underlying4 _))⟩
noncomputable def laidWorld (os : Os) : World :=
 { World.holding Tryz.prog os ⟨#[], #[], []⟩ with heap := ((((((((World.holding Tryz.prog os ⟨#[], #[], []⟩).heap.modify 6 (fun
     | .cells _ t frozen => .cells #[.int .u8 0, .int .u8 1, .int .u8 56, .int .u8 2, .int .u8 57, .int .u8 49, .int .u8 28, .int .u8 3, .int .u8 61, .int .u8 58, .int .u8 42, .int .u8 50, .int .u8 38, .int .u8 29, .int .u8 17, .int .u8 4, .int .u8 62, .int .u8 47, .int .u8 59, .int .u8 36, .int .u8 45, .int .u8 43, .int .u8 51, .int .u8 22, .int .u8 53, .int .u8 39, .int .u8 33, .int .u8 30, .int .u8 24, .int .u8 18, .int .u8 12, .int .u8 5, .int .u8 63, .int .u8 55, .int .u8 48, .int .u8 27, .int .u8 60, .int .u8 41, .int .u8 37, .int .u8 16, .int .u8 46, .int .u8 35, .int .u8 44, .int .u8 21, .int .u8 52, .int .u8 32, .int .u8 23, .int .u8 11, .int .u8 54, .int .u8 26, .int .u8 40, .int .u8 15, .int .u8 34, .int .u8 20, .int .u8 31, .int .u8 10, .int .u8 25, .int .u8 14, .int .u8 19, .int .u8 9, .int .u8 13, .int .u8 8, .int .u8 7, .int .u8 6] t frozen
     | o => o)).modify 5 (fun
     | .cells _ t frozen => .cells #[.int .i64 4, .int .i64 8, .int .i64 16] t frozen
     | o => o)).modify 0 (fun
     | .cells _ t frozen => .cells #[.int .i64 0, .int .i64 3] t frozen
     | o => o)).modify 1 (fun
     | .cells _ t frozen => .cells #[.int .i64 3, .int .i64 2] t frozen
     | o => o)).modify 2 (fun
     | .cells _ t frozen => .cells #[.int .i64 5, .int .i64 6] t frozen
     | o => o)).modify 3 (fun
     | .cells _ t frozen => .cells #[.int .i64 11, .int .i64 13] t frozen
     | o => o)).modify 4 (fun
     | .cells _ t frozen => .cells #[.int .i64 24, .int .i64 8] t frozen
     | o => o)) }
theorem laid_met (os : Os) : laidMet Tryz.prog Rows.soundGivenRow.laid ((laidWorld os).forCall (fun _ _ => 0) ⟨#[], #[.agg #[.int .u8 0, .int .u8 0, .slice none 0 0, .slice none 0 0, .slice none 0 0, .int .u64 0, .int .u64 0, .slice none 0 0]], []⟩).memory :=
 laidMet_of_run' 8 (by kernel_rfl) (by kernel_rfl)
theorem reads (os : Os) {H : Type} (enc : TypeId × Value → H) : ∃ places, DataW.whole enc Tryz.prog ((laidWorld os).forCall (fun _ _ => 0) ⟨#[], #[.agg #[.int .u8 0, .int .u8 0, .slice none 0 0, .slice none 0 0, .slice none 0 0, .int .u64 0, .int .u64 0, .slice none 0 0]], []⟩).memory Tryz.f4.params.toList Rows.soundGivenSpec.vars false (#[.agg #[.int .u8 0, .int .u8 0, .slice none 0 0, .slice none 0 0, .slice none 0 0, .int .u64 0, .int .u64 0, .slice none 0 0]] : Array Value).toList 8 = some ([.agg [.lit (.int .u8 0), .lit (.int .u8 0), .nil, .nil, .nil, .lit (.int .u64 0), .lit (.int .u64 0), .nil]], [], places) :=
 ⟨[], by kernel_rfl⟩
theorem lifted (os : Os) (started : os.Started) (H : Type) (enc : TypeId × Value → H) (F : Stop.Interp) :
 ReturnsInHanded {} Tryz.checked os 4 .any ((OpenSpec.ofChange Rows.soundGivenSpec).preRow enc Tryz.prog Tryz.f4 Rows.soundGivenRow.domain false Rows.soundGivenRow.laid) (((OpenSpec.ofChange Rows.soundGivenSpec).at F).post enc Tryz.prog Tryz.f4 false true false false) := by
 obtain ⟨places, hx⟩ := reads os enc
 refine returnsInHanded_of_row (C := Tryz.checked) (s := OpenSpec.ofChange Rows.soundGivenSpec) own started (by kernel_rfl) Tryz.func4
  (witness_row_at (enc := enc) (C := Tryz.checked) false (laidWorld os) #[.agg #[.int .u8 0, .int .u8 0, .slice none 0 0, .slice none 0 0, .slice none 0 0, .int .u64 0, .int .u64 0, .slice none 0 0]] rfl (by kernel_rfl) (by kernel_rfl) (by kernel_rfl)
    (OpenSpec.preRow_of_cond 8 hx (by kernel_rfl) (fun k hk => by cases hk) (by kernel_rfl) (laid_met os))) ?_
 intro W base args ds gs before hval hW _ _ _ hL _ _
 exact contract H enc W base args ds gs before hval hW hL
theorem said : Rows.SoundGivenSaid :=
 OpenClaim.holds_of_cond 4 Tryz.f4 rfl rfl rfl rfl rfl rfl rfl ⟨rfl, rfl, rfl, rfl, rfl⟩ rfl rfl rfl rfl rfl (by kernel_rfl) Tryz.func4 (by kernel_rfl)
  (of_decide_eq_true (by kernel_rfl)) (by unfold Func.isWrapper; first | (rw [if_pos (by decide +kernel)]; kernel_rfl) | (rw [if_neg (by decide +kernel)]; exact ⟨rfl, rfl⟩))
  (fun os started H enc _ F => by rw [OpenClaim.pre_eq_preRow]; exact lifted os started H enc F)
theorem plain (f : FuncId) (fn : Func) (hf : Tryz.pinned.checked.prog.funcNamed "lockfast/lockfastlaw16.SoundGiven" = some f) (hfn : Tryz.pinned.checked.prog.funcs[f]? = some fn) :
 false = Tryz.pinned.checked.prog.looks [] ∧ ∀ (j : Nat) t, fn.params[j]? = some t → Tryz.pinned.checked.prog.wantsStandIn t = false := by
 obtain rfl : f = 4 := Option.some.inj ((show Tryz.prog.funcNamed "lockfast/lockfastlaw16.SoundGiven" = some 4 by kernel_rfl).symm.trans hf) |>.symm
 obtain rfl : fn = Tryz.f4 := (Option.some.inj (Tryz.func4.symm.trans hfn)).symm
 refine ⟨by kernel_rfl, fun j t ht => ?_⟩
 have hall : (Tryz.f4.params.toList.all fun t => !(Tryz.prog.wantsStandIn t)) = true := by kernel_rfl
 have hm := List.all_eq_true.1 hall t (by simpa using Array.mem_of_getElem? ht)
 have hn : Tryz.prog.wantsStandIn t = false := by simpa using hm
 exact hn
theorem card : Rows.SoundGivenCardSaid :=
 Claim7.holds_tied_plain_at .later [] _ _ _ _ said (fun _ h => by cases h) (by kernel_rfl) (fun _ h => by cases h) soundGiven_row_tie rfl ⟨rfl, rfl⟩ (by kernel_rfl) rfl plain (by kernel_rfl)
#print axioms card
end Go.Proofs.YtdmmbnnejbmdpaaGreatDoor.lawSoundGiven
