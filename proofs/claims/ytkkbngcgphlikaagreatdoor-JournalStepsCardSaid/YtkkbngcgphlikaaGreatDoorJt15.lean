/-
  Part of the proof of JournalSteps.
-/
import Derived.Test.YtkkbngcgphlikaaGreatDoorJt13
import Derived.Test.YtkkbngcgphlikaaGreatDoorJt0
set_option maxRecDepth 10000
set_option maxHeartbeats 400000
set_option linter.unusedVariables false
set_option linter.unusedSimpArgs false
section
namespace Go.Proofs.YtkkbngcgphlikaaGreatDoor
open Go.RowKit Go.ChangeShapes Go.WideShapes Go.Deep Go.Shelf
attribute [local go_sem] Oper.semAt_some
def slV : Value → Value
 | .slice a n c => .slice a n c
 | _ => .slice none 0 0
def eS (x : Ex) : List Value := [.int .i64 x.1, slV x.2.1]
def px (x : Ex) : Pe := (x.1, x.2.2)
def EN (w : World) (v : Value) (l : List Pe) : Prop := ∃ xs : List Ex, EL 2 eS w v xs ∧ (∀ x ∈ xs, KL .u64 w x.2.1 x.2.2) ∧ xs.map px = l
theorem EN.keep {w w1 : World} {v : Value} {l : List Pe} (h : EN w v l) (hb : Below w.heap.size w w1) : EN w1 v l := by
 obtain ⟨xs, h1, h2, h3⟩ := h
 exact ⟨xs, h1.keep hb, fun x hx => (h2 x hx).keep hb, h3⟩
def decL (gn : Nat) (ws : List Nat) : Option (List Pe) := if none ∈ evs gn ws then none else some ((evs gn ws).filterMap id)
theorem ownLt_of {w : World} {Bo : Nat} {v : Value} {t : TypeId} (h : Boxed w Bo t v) (hv : ∀ b, v.ownBlock = some b → b < w.heap.size) : OwnLt w Bo := fun b ⟨u, hu, ho⟩ => by
 rw [h.cell] at hu; cases hu; exact hv b ho
theorem ownAt_iff {w : World} {Bo b : Nat} {v : Value} {t : TypeId} (h : Boxed w Bo t v) : OwnAt w Bo b ↔ v.ownBlock = some b :=
 ⟨fun ⟨u, hu, ho⟩ => by rw [h.cell] at hu; cases hu; exact ho, fun q => ⟨v, h.cell, q⟩⟩
theorem wpListIn_append_run {F : Fence} {n : Nat} {P : Program} {w w' : World} {ops : Array Oper} {rest : List Oper} {o : Oper} {a : Act} {Q : Exit → Act → World → Prop} (hg : o.guard = none) (s x : Operand) (t : TypeId)
 (hop : o.op = Op.call { callee := Callee.builtin Builtin.append, args := #[s, x], argTypes := #[t, t] }) (vs vx v : Value) (hs : a.eval s = vs) (hx : a.eval x = vx)
 (hrun : (Builtin.append_ #[t, t] o.type #[vs, vx]).run P w = .ok v w') (h : wpListIn F n P ops Q rest (a.put o.dst v) w') : wpListIn F n P ops Q (o :: rest) a w := by
 refine wpListIn_plain hg fun K hK' => ?_
 unfold Oper.wpIn
 refine ⟨?_, ?_⟩
 ·simp [Oper.about, hop, resolve, Target.leads, Sem.run_pure]
 rw [Oper.semAt_plain F _ _ (by rw [hop]; intro c hc'; cases hc')]
 simp [execOp, hop, resolve, invoke, builtin, hs, hx, hrun, Result.andThen]
 exact hK' _ _ h
end Go.Proofs.YtkkbngcgphlikaaGreatDoor
end
section
namespace Go.Proofs.YtkkbngcgphlikaaGreatDoor
open Go.RowKit
theorem room_ok (W L : Int) (w : World) (h : gOk W L = true) :
 Calls Tryz.prog 133 #[.agg #[.int .i64 W, .int .i64 L]] w fun e w' => e = .returned (.int .i64 (gN W L)) ∧ Below w.heap.size w w' := by
 obtain ⟨h1, h2, h3, h4⟩ := gOk_t h
 have e : (W - (10 + 73 * L)).tdiv 33 = gN W L := by rw [Int.tdiv_eq_ediv_of_nonneg (by omega)]; rfl
 rw [← e]
 exact room_any W L w h1 h2 (by omega) h3
theorem table_t (W L : Int) (w : World) (h : gOk W L = true) :
 Calls Tryz.prog 74 #[.agg #[.int .i64 W, .int .i64 L]] w fun e w' => e = .returned (.agg #[.int .i64 (10 + 73 * L), .int .i64 (gN W L)]) ∧ Below w.heap.size w w' := by
 obtain ⟨h1, h2, _, _⟩ := gOk_t h
 have H := lh h
 clear h
 go_enter Tryz.func74, Tryz.ntmps74
 go_wp2_with fail
 refine (right_t W L _ H.out).mono ?_
 rintro e w1 ⟨rfl, hb1⟩
 have j1 := ((C2.new w (.int .i64 W) (.int .i64 L) 37).alloc (.cells #[.int .i64 0, .int .i64 0] 70)).keep hb1
 have k1 := (C2.new (w.alloc (.cells #[.int .i64 W, .int .i64 L] 37)) (.int .i64 0) (.int .i64 0) 70).keep hb1
 have f1 := (F2.new (w.alloc (.cells #[.int .i64 W, .int .i64 L] 37)) (.int .i64 0) (.int .i64 0) 70).keep (by simp) hb1
 simp only [World.size_alloc] at k1 f1
 have lt1 := j1.lt
 have lt2 := k1.lt
 obtain ⟨c0, c1⟩ := id k1
 obtain ⟨d0, d1⟩ := id j1
 obtain ⟨g0, g1⟩ := id f1
 have hB : Below w.heap.size w w1 := ((bZ _ _).alloc (by simp) _).trans (hb1.mono (by simp; omega))
 go_wp2_with fail
 go_region_with (first
  | (go_at_call 132; refine (table_any W L _ h1 h2).mono ?_; rintro e w6 ⟨rfl, hb⟩; have BB : Below w.heap.size w w6 := (by first | exact BB.trans (hb.mono (Nat.le_of_lt jj.lt)) | exact hB.drew.trans (hb.mono (Nat.le_of_lt j1.drew.lt)) | exact hB.trans (hb.mono (Nat.le_of_lt j1.lt))); have jj : C2 w6 w.heap.size (.int .i64 W) (.int .i64 L) := (by first | exact jj.keep hb | exact j1.drew.keep hb | exact j1.keep hb); have ff : F2 w6 (w.heap.size + 1) := (by first | exact ff.keep kk.lt hb | exact f1.drew.keep k1.drew.lt hb | exact f1.keep k1.lt hb); have kk : C2 w6 (w.heap.size + 1) (.int .i64 0) (.int .i64 0) := (by first | exact kk.keep hb | exact k1.drew.keep hb | exact k1.keep hb); obtain ⟨d0, d1⟩ := id jj; obtain ⟨c0, c1⟩ := id kk; obtain ⟨g0, g1⟩ := id ff)
  | (go_at_call 133; refine (room_ok W L _ H.out).mono ?_; rintro e w7 ⟨rfl, hb⟩; have BB : Below w.heap.size w w7 := (by first | exact BB.trans (hb.mono (Nat.le_of_lt jj.lt)) | exact hB.drew.trans (hb.mono (Nat.le_of_lt j1.drew.lt)) | exact hB.trans (hb.mono (Nat.le_of_lt j1.lt))); have jj : C2 w7 w.heap.size (.int .i64 W) (.int .i64 L) := (by first | exact jj.keep hb | exact j1.drew.keep hb | exact j1.keep hb); have ff : F2 w7 (w.heap.size + 1) := (by first | exact ff.keep kk.lt hb | exact f1.drew.keep k1.drew.lt hb | exact f1.keep k1.lt hb); have kk : C2 w7 (w.heap.size + 1) (.int .i64 0) (.int .i64 0) := (by first | exact kk.keep hb | exact k1.drew.keep hb | exact k1.keep hb); obtain ⟨d0, d1⟩ := id jj; obtain ⟨c0, c1⟩ := id kk; obtain ⟨g0, g1⟩ := id ff))
 all_goals
  go_wp2_with fail
  refine bodyPost_ret (v := .agg #[.int .i64 (10 + 73 * L), .int .i64 (gN W L)]) (by simp [results, Tryz.results74, go_sem, c0, c1]) rfl ⟨rfl, ?_⟩
  exact (BB.setCell (by simp) _).setCell (by simp) _
end Go.Proofs.YtkkbngcgphlikaaGreatDoor
end
section
namespace Go.Proofs.YtkkbngcgphlikaaGreatDoor
open Go.RowKit Go.ChangeShapes Go.WideShapes Go.Deep Go.Shelf
attribute [local go_sem] Oper.semAt_some
abbrev Bv := Int × Ex
def bk (L : List Ex) (k : Nat) : List Bv := ((List.range' k (L.length - k)).map fun i : Nat => ((i : Int), L.getD i default)).reverse
end Go.Proofs.YtkkbngcgphlikaaGreatDoor
end
section
set_option maxRecDepth 100000
namespace Go.Proofs.YtkkbngcgphlikaaGreatDoor
open Go.RowKit
def decH (l : List Nat) : Option (Nat × Nat × Nat) := if l.length < 2 then none else
 if hdB (l.getD 0 0 % 65536 : Nat) (l.getD 0 0 / 65536 % 65536 : Nat) (l.getD 1 0 : Nat) && decide (l.getD 0 0 / 4294967296 = 4200005632) then some (l.getD 0 0 % 65536, l.getD 0 0 / 65536 % 65536, l.getD 1 0) else none
end Go.Proofs.YtkkbngcgphlikaaGreatDoor
end
section
set_option maxRecDepth 100000
namespace Go.Proofs.YtkkbngcgphlikaaGreatDoor
open Go.RowKit Go.Lib
theorem below1 (w : World) (o : Obj) : Below w.heap.size w (w.alloc o) := bZ _ _
end Go.Proofs.YtkkbngcgphlikaaGreatDoor
end
