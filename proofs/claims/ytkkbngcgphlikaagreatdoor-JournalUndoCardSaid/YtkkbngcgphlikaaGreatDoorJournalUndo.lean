/-
  Part of the proof of JournalUndo.
-/
import Derived.Test.YtkkbngcgphlikaaGreatDoorJu51
import Derived.Test.YtkkbngcgphlikaaGreatDoorCards
import Derived.Test.YtkkbngcgphlikaaGreatDoorTie
import Derived.Deep.DeepHandedRow
import Derived.Test.YtkkbngcgphlikaaGreatDoorJu0
set_option maxRecDepth 100000
set_option linter.unusedVariables false
set_option linter.unusedSimpArgs false
namespace Go.Proofs.YtkkbngcgphlikaaGreatDoor.lawJournalUndo
open Go.ChangeShapes Go.WideShapes Go.ChangeAt Go.RowKit Go.Joins
theorem own : ownKnob Tryz.prog.godebug = none := by kernel_rfl
theorem laidOut : laidOutB Tryz.prog = true := by kernel_rfl
theorem walk (w : World) (hw : Lw w) (g0 : Sx) (a1 : Int) (g2 : Wx) (a3 : Int) (v4 : Value) (l4 : List Nat) (w0 : SOk_so w g0) (w1 : (Lit.int .u8 a1).wf = true) (w2 : WkOk w g2) (w3 : (Lit.int .u8 a3).wf = true) (w4 : BL9 l4) (s4 : KL .u8 w v4 l4) :
 Calls Tryz.prog 3 #[sxV g0, .int .u8 a1, wxV g2, .int .u8 a3, v4] w fun e w' => e = .returned (.bool true) ∧ Below w.heap.size w w' := by
 have b1 := bounds_u8 w1
 have b3 := bounds_u8 w3
 obtain ⟨n1, rfl⟩ := Int.eq_ofNat_of_zero_le (show 0 ≤ a1 by omega)
 obtain ⟨n3, rfl⟩ := Int.eq_ofNat_of_zero_le (show 0 ≤ a3 by omega)
 exact journalUndo g0.2 _ _ _ _ _ _ _ _ _ g2.2 _ l4 n1 n3 (by omega) (by omega) w hw w0.1 w0.2 w2.1 w2.2 s4 (fun x hx => w4 x hx)
theorem contract (H : Type) (enc : TypeId × Value → H) (W : World) (base : Nat) (args : Array Value) (ds gs : List (DataW H)) (before : List MemPlace)
 (hval : ∀ (j : Nat) t v, Tryz.f3.params[j]? = some t → args[j]? = some v → Value.okWide Tryz.prog W .any base t v)
 (hW : DataW.Whole enc Tryz.prog Tryz.f3.params.toList Rows.journalUndoSpec.vars false W args.toList ds gs before) (hL : laidMetH Tryz.prog Rows.journalUndoRow.laid W) :
 Calls Tryz.prog 3 args W fun e W' => ∃ v, e = .returned v ∧ Rows.journalUndoSpec.post enc Tryz.prog Tryz.f3 false true false false W args v W' := by
 have hW' := hW
 obtain ⟨p, q, hA0, hV, rfl, hfz, hnd⟩ := hW
 have hA : DataW.TrodAll enc Tryz.prog W 0 (fun _ => true) true Tryz.f3.params.toList args.toList ds p := hA0
 rw [Tryz.params3] at hA hval
 obtain ⟨v0, vs0, d0, ds0, p0, q0, hargs, rfl, rfl, h0, r0⟩ := trodAll_cons hA
 obtain ⟨v1, vs1, d1, ds1, p1, q1, rfl, rfl, rfl, h1, r1⟩ := trodAll_cons r0
 obtain ⟨v2, vs2, d2, ds2, p2, q2, rfl, rfl, rfl, h2, r2⟩ := trodAll_cons r1
 obtain ⟨v3, vs3, d3, ds3, p3, q3, rfl, rfl, rfl, h3, r3⟩ := trodAll_cons r2
 obtain ⟨v4, vs4, d4, ds4, p4, q4, rfl, rfl, rfl, h4, r4⟩ := trodAll_cons r3
 obtain ⟨rfl, rfl, rfl⟩ := trodAll_nil r4
 obtain rfl : args = #[v0, v1, v2, v3, v4] := by cases args; simp_all
 obtain ⟨rfl, rfl⟩ := trodVars_none hV
 have hlt := hW'.lt
 have k0 : ∀ W1 : World, Below W.heap.size W W1 → ∀ sp : Nat → Bool, (∀ x ∈ p0, sp x.block = true) → DataW.Trod enc Tryz.prog W1 0 sp true 27 v0 d0 p0 := fun W1 hb sp hsp => WideElems.Trod_stays laidOut (by kernel_rfl) (of_decide_eq_true (by kernel_rfl)) h0 (fun x hx => hb.same (hlt x (by simp [hx]))) hsp
 have k2 : ∀ W1 : World, Below W.heap.size W W1 → ∀ sp : Nat → Bool, (∀ x ∈ p2, sp x.block = true) → DataW.Trod enc Tryz.prog W1 0 sp true 31 v2 d2 p2 := fun W1 hb sp hsp => WideElems.Trod_stays laidOut (by kernel_rfl) (of_decide_eq_true (by kernel_rfl)) h2 (fun x hx => hb.same (hlt x (by simp [hx]))) hsp
 have k4 : ∀ W1 : World, Below W.heap.size W W1 → ∀ sp : Nat → Bool, (∀ x ∈ p4, sp x.block = true) → DataW.Trod enc Tryz.prog W1 0 sp true 23 v4 d4 p4 := fun W1 hb sp hsp => WideElems.Trod_stays laidOut (by kernel_rfl) (of_decide_eq_true (by kernel_rfl)) h4 (fun x hx => hb.same (hlt x (by simp [hx]))) hsp
 obtain ⟨g0, w0, rfl⟩ := stock_open (hval 0 27 v0 rfl rfl) h0
 obtain ⟨a1, rfl, rfl, rfl, w1⟩ := open_int Tryz.underlying5 (hval 1 5 v1 rfl rfl) h1
 obtain ⟨g2, w2, rfl⟩ := work_open (hval 2 31 v2 rfl rfl) h2
 obtain ⟨a3, rfl, rfl, rfl, w3⟩ := open_int Tryz.underlying5 (hval 3 5 v3 rfl rfl) h3
 obtain ⟨ad4, len4, cap4, rfl⟩ := okWide_slice Tryz.underlying23 (hval 4 23 v4 rfl rfl)
 obtain ⟨l4, wl4, sl4⟩ := bytes_open9 Tryz.underlying23 Tryz.underlying5 (by kernel_rfl) h4
 have hM0 : laidMet Tryz.prog [("lockfast/class.blocks", Lib.tabData .i64 [4, 8, 16]), ("lockfast/chunk.kindPlace", .agg [.lit (.int .i64 0), .lit (.int .i64 3)]), ("lockfast/chunk.classPlace", .agg [.lit (.int .i64 3), .lit (.int .i64 2)]), ("lockfast/chunk.lanePlace", .agg [.lit (.int .i64 5), .lit (.int .i64 6)]), ("lockfast/chunk.manyPlace", .agg [.lit (.int .i64 11), .lit (.int .i64 13)]), ("lockfast/chunk.bitsPlace", .agg [.lit (.int .i64 24), .lit (.int .i64 8)])] W := hL
 have hM1 : laidMet Tryz.prog [("lockfast/chunk.kindPlace", .agg [.lit (.int .i64 0), .lit (.int .i64 3)]), ("lockfast/chunk.classPlace", .agg [.lit (.int .i64 3), .lit (.int .i64 2)]), ("lockfast/chunk.lanePlace", .agg [.lit (.int .i64 5), .lit (.int .i64 6)]), ("lockfast/chunk.manyPlace", .agg [.lit (.int .i64 11), .lit (.int .i64 13)]), ("lockfast/chunk.bitsPlace", .agg [.lit (.int .i64 24), .lit (.int .i64 8)])] W := laid_tail hM0
 have hM2 : laidMet Tryz.prog [("lockfast/chunk.classPlace", .agg [.lit (.int .i64 3), .lit (.int .i64 2)]), ("lockfast/chunk.lanePlace", .agg [.lit (.int .i64 5), .lit (.int .i64 6)]), ("lockfast/chunk.manyPlace", .agg [.lit (.int .i64 11), .lit (.int .i64 13)]), ("lockfast/chunk.bitsPlace", .agg [.lit (.int .i64 24), .lit (.int .i64 8)])] W := laid_tail hM1
 have hM3 : laidMet Tryz.prog [("lockfast/chunk.lanePlace", .agg [.lit (.int .i64 5), .lit (.int .i64 6)]), ("lockfast/chunk.manyPlace", .agg [.lit (.int .i64 11), .lit (.int .i64 13)]), ("lockfast/chunk.bitsPlace", .agg [.lit (.int .i64 24), .lit (.int .i64 8)])] W := laid_tail hM2
 have hM4 : laidMet Tryz.prog [("lockfast/chunk.manyPlace", .agg [.lit (.int .i64 11), .lit (.int .i64 13)]), ("lockfast/chunk.bitsPlace", .agg [.lit (.int .i64 24), .lit (.int .i64 8)])] W := laid_tail hM3
 have hM5 : laidMet Tryz.prog [("lockfast/chunk.bitsPlace", .agg [.lit (.int .i64 24), .lit (.int .i64 8)])] W := laid_tail hM4
 have tab0 : Lib.TabIs Tryz.prog W "lockfast/class.blocks" .i64 [4, 8, 16] :=
  Lib.tabIs_of_head (show Tryz.prog.globalNamed "lockfast/class.blocks" = some 5 by kernel_rfl) (show (Tryz.prog.globals[5]?).map (·.type) = some 213 by kernel_rfl) Tryz.underlying213 Tryz.underlying3 (show Tryz.prog.cellsOf 3 = 1 by kernel_rfl) (show Tryz.prog.cellsOf 213 = 3 by kernel_rfl) hM0
 have gt0 : Tryz.prog.globalNamed "lockfast/class.blocks" = some 5 := by kernel_rfl
 have ht : Tab W := ⟨tab0.cell gt0 0 (by decide), tab0.cell gt0 1 (by decide), tab0.cell gt0 2 (by decide)⟩
 have htl : 5 < W.heap.size := by have := World.block_lt_of_cell? _ _ ht.1; simpa using this
 have hp0 : CC W 0 0 3 := pair_of_head (show Tryz.prog.globalNamed "lockfast/chunk.kindPlace" = some 0 by kernel_rfl) (show (Tryz.prog.globals[0]?).map (·.type) = some 199 by kernel_rfl) Tryz.underlying199 rfl rfl Tryz.underlying3 Tryz.underlying3 (by kernel_rfl) (by kernel_rfl) hM1
 have hp1 : CC W 1 3 2 := pair_of_head (show Tryz.prog.globalNamed "lockfast/chunk.classPlace" = some 1 by kernel_rfl) (show (Tryz.prog.globals[1]?).map (·.type) = some 199 by kernel_rfl) Tryz.underlying199 rfl rfl Tryz.underlying3 Tryz.underlying3 (by kernel_rfl) (by kernel_rfl) hM2
 have hp2 : CC W 2 5 6 := pair_of_head (show Tryz.prog.globalNamed "lockfast/chunk.lanePlace" = some 2 by kernel_rfl) (show (Tryz.prog.globals[2]?).map (·.type) = some 199 by kernel_rfl) Tryz.underlying199 rfl rfl Tryz.underlying3 Tryz.underlying3 (by kernel_rfl) (by kernel_rfl) hM3
 have hp3 : CC W 3 11 13 := pair_of_head (show Tryz.prog.globalNamed "lockfast/chunk.manyPlace" = some 3 by kernel_rfl) (show (Tryz.prog.globals[3]?).map (·.type) = some 199 by kernel_rfl) Tryz.underlying199 rfl rfl Tryz.underlying3 Tryz.underlying3 (by kernel_rfl) (by kernel_rfl) hM4
 have hp4 : CC W 4 24 8 := pair_of_head (show Tryz.prog.globalNamed "lockfast/chunk.bitsPlace" = some 4 by kernel_rfl) (show (Tryz.prog.globals[4]?).map (·.type) = some 199 by kernel_rfl) Tryz.underlying199 rfl rfl Tryz.underlying3 Tryz.underlying3 (by kernel_rfl) (by kernel_rfl) hM5
 have hw : Lw W := ⟨trivial, trivial, ht, htl, hp0, hp1, hp2, hp3, hp4⟩
 refine (walk W hw g0 a1 g2 a3 _ l4 w0 w1 w2 w3 wl4 sl4).mono fun e W' ⟨he, hg⟩ => ?_
 subst he
 exact ⟨_, rfl, post_of_below_any (pv := []) hW' (fun _ _ _ => (trodAll_cons_mk (shut_bool Tryz.underlying4 _) trodAll_mk0)) (fun sp hsp => (trodAll_cons_mk (k0 W' hg sp (fun x hx => hsp x (by first | (simp at hx; done) | simp [hx] | simp_all))) (trodAll_cons_mk (shut_int Tryz.underlying5 w1) (trodAll_cons_mk (k2 W' hg sp (fun x hx => hsp x (by first | (simp at hx; done) | simp [hx] | simp_all))) (trodAll_cons_mk (shut_int Tryz.underlying5 w3) (trodAll_cons_mk (k4 W' hg sp (fun x hx => hsp x (by simp [hx]))) trodAll_mk0)))))) (fun _ _ => rfl) rfl
  hg (ok_one (by kernel_rfl) rfl (okWide_bool_mk Tryz.underlying4 _))⟩
noncomputable def laidWorld (os : Os) : World :=
 { World.holding Tryz.prog os ⟨#[], #[], []⟩ with heap := (((((((World.holding Tryz.prog os ⟨#[], #[], []⟩).heap.modify 5 (fun
     | .cells _ t frozen => .cells #[.int .i64 4, .int .i64 8, .int .i64 16] t frozen
     | o => o)).modify 0 (fun
     | .cells _ t frozen => .cells #[.int .i64 0, .int .i64 3] t frozen
     | o => o)).modify 1 (fun
     | .cells _ t frozen => .cells #[.int .i64 3, .int .i64 2] t frozen
     | o => o)).modify 2 (fun
     | .cells _ t frozen => .cells #[.int .i64 5, .int .i64 6] t frozen
     | o => o)).modify 3 (fun
     | .cells _ t frozen => .cells #[.int .i64 11, .int .i64 13] t frozen
     | o => o)).modify 4 (fun
     | .cells _ t frozen => .cells #[.int .i64 24, .int .i64 8] t frozen
     | o => o)) }
theorem laid_met (os : Os) : laidMet Tryz.prog Rows.journalUndoRow.laid ((laidWorld os).forCall (fun _ _ => 0) ⟨#[], #[.agg #[.int .u8 0, .int .u8 0, .slice none 0 0, .slice none 0 0, .slice none 0 0, .int .u32 0, .int .u8 0, .slice none 0 0], .int .u8 0, .agg #[.slice none 0 0, .slice none 0 0, .slice none 0 0, .slice none 0 0, .slice none 0 0], .int .u8 0, .slice none 0 0], []⟩).memory :=
 laidMet_of_run' 8 (by kernel_rfl) (by kernel_rfl)
theorem reads (os : Os) {H : Type} (enc : TypeId × Value → H) : ∃ places, DataW.whole enc Tryz.prog ((laidWorld os).forCall (fun _ _ => 0) ⟨#[], #[.agg #[.int .u8 0, .int .u8 0, .slice none 0 0, .slice none 0 0, .slice none 0 0, .int .u32 0, .int .u8 0, .slice none 0 0], .int .u8 0, .agg #[.slice none 0 0, .slice none 0 0, .slice none 0 0, .slice none 0 0, .slice none 0 0], .int .u8 0, .slice none 0 0], []⟩).memory Tryz.f3.params.toList Rows.journalUndoSpec.vars false (#[.agg #[.int .u8 0, .int .u8 0, .slice none 0 0, .slice none 0 0, .slice none 0 0, .int .u32 0, .int .u8 0, .slice none 0 0], .int .u8 0, .agg #[.slice none 0 0, .slice none 0 0, .slice none 0 0, .slice none 0 0, .slice none 0 0], .int .u8 0, .slice none 0 0] : Array Value).toList 8 = some ([.agg [.lit (.int .u8 0), .lit (.int .u8 0), .nil, .nil, .nil, .lit (.int .u32 0), .lit (.int .u8 0), .nil], .lit (.int .u8 0), .agg [.nil, .nil, .nil, .nil, .nil], .lit (.int .u8 0), .nil], [], places) :=
 ⟨[], by kernel_rfl⟩
theorem lifted (os : Os) (started : os.Started) (H : Type) (enc : TypeId × Value → H) (F : Stop.Interp) :
 ReturnsInHanded {} Tryz.checked os 3 .any ((OpenSpec.ofChange Rows.journalUndoSpec).preRow enc Tryz.prog Tryz.f3 Rows.journalUndoRow.domain false Rows.journalUndoRow.laid) (((OpenSpec.ofChange Rows.journalUndoSpec).at F).post enc Tryz.prog Tryz.f3 false true false false) := by
 obtain ⟨places, hx⟩ := reads os enc
 refine returnsInHanded_of_row (C := Tryz.checked) (s := OpenSpec.ofChange Rows.journalUndoSpec) own started (by kernel_rfl) Tryz.func3
  (witness_row_at (enc := enc) (C := Tryz.checked) false (laidWorld os) #[.agg #[.int .u8 0, .int .u8 0, .slice none 0 0, .slice none 0 0, .slice none 0 0, .int .u32 0, .int .u8 0, .slice none 0 0], .int .u8 0, .agg #[.slice none 0 0, .slice none 0 0, .slice none 0 0, .slice none 0 0, .slice none 0 0], .int .u8 0, .slice none 0 0] rfl (by kernel_rfl) (by kernel_rfl) (by kernel_rfl)
    (OpenSpec.preRow_of_cond 8 hx (by kernel_rfl) (fun k hk => by cases hk) (by kernel_rfl) (laid_met os))) ?_
 intro W base args ds gs before hval hW _ _ _ hL _ _
 exact contract H enc W base args ds gs before hval hW hL
theorem said : Rows.JournalUndoSaid :=
 OpenClaim.holds_of_cond 3 Tryz.f3 rfl rfl rfl rfl rfl rfl rfl ⟨rfl, rfl, rfl, rfl, rfl⟩ rfl rfl rfl rfl rfl (by kernel_rfl) Tryz.func3 (by kernel_rfl)
  (of_decide_eq_true (by kernel_rfl)) (by unfold Func.isWrapper; first | (rw [if_pos (by decide +kernel)]; kernel_rfl) | (rw [if_neg (by decide +kernel)]; exact ⟨rfl, rfl⟩))
  (fun os started H enc _ F => by rw [OpenClaim.pre_eq_preRow]; exact lifted os started H enc F)
theorem plain (f : FuncId) (fn : Func) (hf : Tryz.pinned.checked.prog.funcNamed "lockfast/lockfastlaw19.JournalUndo" = some f) (hfn : Tryz.pinned.checked.prog.funcs[f]? = some fn) :
 false = Tryz.pinned.checked.prog.looks [] ∧ ∀ (j : Nat) t, fn.params[j]? = some t → Tryz.pinned.checked.prog.wantsStandIn t = false := by
 obtain rfl : f = 3 := Option.some.inj ((show Tryz.prog.funcNamed "lockfast/lockfastlaw19.JournalUndo" = some 3 by kernel_rfl).symm.trans hf) |>.symm
 obtain rfl : fn = Tryz.f3 := (Option.some.inj (Tryz.func3.symm.trans hfn)).symm
 refine ⟨by kernel_rfl, fun j t ht => ?_⟩
 have hall : (Tryz.f3.params.toList.all fun t => !(Tryz.prog.wantsStandIn t)) = true := by kernel_rfl
 have hm := List.all_eq_true.1 hall t (by simpa using Array.mem_of_getElem? ht)
 have hn : Tryz.prog.wantsStandIn t = false := by simpa using hm
 exact hn
theorem card : Rows.JournalUndoCardSaid :=
 Claim7.holds_tied_plain_at .later [] _ _ _ _ said (fun _ h => by cases h) (by kernel_rfl) (fun _ h => by cases h) journalUndo_row_tie rfl ⟨rfl, rfl⟩ (by kernel_rfl) rfl plain (by kernel_rfl)
#print axioms card
end Go.Proofs.YtkkbngcgphlikaaGreatDoor.lawJournalUndo
