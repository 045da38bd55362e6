/-
  Part of the proof of JournalUndo.
-/
import Derived.Test.YtkkbngcgphlikaaGreatDoorJu34
import Derived.Test.YtkkbngcgphlikaaGreatDoorRows
import Derived.Test.YtkkbngcgphlikaaGreatDoorJu0
set_option maxRecDepth 10000
set_option maxHeartbeats 1000000
set_option linter.unusedVariables false
set_option linter.unusedSimpArgs false
section
namespace Go.Proofs.YtkkbngcgphlikaaGreatDoor
open Go.Lib Go.RowKit Go.ChangeShapes Go.WideShapes Go.Deep Go.Shelf
theorem BKO.formB {w : World} {base : Nat} {v : Value} {l : List Bl} {n : Nat} (h : BKO w base v l) (hn : l.length = n) : ∃ A cap, v = .slice A n cap ∧
 ∀ w1 i, Below w.heap.size w w1 → i < n → ∃ g off, A = some ⟨g, off, none⟩ ∧ n ≤ cap ∧ g < w.heap.size ∧ g < w1.heap.size ∧ w1.cell? ⟨g, off + i * 3, none⟩ = some (.int .i64 ((l.getD i default).1 : Nat)) ∧ w1.cell? ⟨g, off + i * 3 + 1, none⟩ = some (.int .i64 ((l.getD i default).2.1 : Nat)) ∧ w1.cell? ⟨g, off + i * 3 + 2, none⟩ = some (.int .i64 ((l.getD i default).2.2 : Nat)) := by
 obtain ⟨A, cap, hv, h⟩ := EL.form (h.el eB_len) hn
 refine ⟨A, cap, hv, fun w1 i hb hi => ?_⟩
 obtain ⟨g, off, hA, h1, h2, h3, hc⟩ := h w1 i hb hi
 exact ⟨g, off, hA, h1, h2, h3, hc 0 (by omega), hc 1 (by omega), hc 2 (by omega)⟩
theorem bl_len {I : List Nat} {L : Nat} (hg : gOk (I.length : Nat) (L : Nat) = true) : (blI I L).length ≤ 8 * gNat I.length L := by
 unfold blI blksT
 split
 rotate_left
 ·exact Nat.zero_le _
 rw [← tab_len hg]
 have : ∀ (t : List Nat) (o : Nat), (blksFrom o t).length ≤ 8 * t.length := by
  intro t
  induction t with
  | nil => intro o; exact Nat.zero_le _
  | cons x t ih =>
    intro o
    show (blksAt o x ++ blksFrom (o + 1) t).length ≤ _
    rw [List.length_append, List.length_cons]
    have h1 := ih (o + 1)
    have h2 : (blksAt o x).length ≤ 8 := by
     unfold blksAt
     split
     ·rw [List.length_map]
      unfold liveL
      refine Nat.le_trans (List.length_filter_le _ _) ?_
      rw [List.length_range]
      unfold mnN
      split <;> (try split) <;> (try split) <;> omega
     split
     ·simp
     exact Nat.zero_le _
    omega
 exact this _ 0
end Go.Proofs.YtkkbngcgphlikaaGreatDoor
end
section
namespace Go.Proofs.YtkkbngcgphlikaaGreatDoor
open Go.Lib Go.RowKit Go.ChangeShapes Go.WideShapes Go.Deep Go.Shelf
abbrev Jx := Nat × Nat × Nat × Value
instance : Inhabited Jx := ⟨(0, 0, 0, .slice none 0 0)⟩
theorem own_ne {α : Type} {e : TypeId} {sz : Nat} {en : α → List Value} {w : World} {b1 b2 : Nat} {u v : Value} {l : List Nat} {xs : List α} (h : OwnU w b1 u l) (k : OwnE e sz en w b2 v xs) (ht : e ≠ 40) : u.ownBlock = none ∨ u.ownBlock ≠ v.ownBlock := by
 rcases h.2 with ⟨rfl, _⟩ | ⟨g, cap, cur, rfl, _, hg, _⟩
 ·exact .inl rfl
 right
 intro q
 rcases k.2 with ⟨rfl, _⟩ | ⟨g2, cap2, cur2, rfl, _, hg2, _⟩
 ·cases q
 cases q
 rw [hg] at hg2
 cases hg2
 exact ht rfl
end Go.Proofs.YtkkbngcgphlikaaGreatDoor
end
section
namespace Go.Proofs.YtkkbngcgphlikaaGreatDoor
open Go.Lib Go.RowKit Go.ChangeShapes Go.WideShapes Go.Deep Go.Shelf
theorem mkdec_t (x : Nat) (w : World) (hx : x < 18446744073709551616) (h : mkOk x = true) :
 Calls Tryz.prog 123 #[.int .u64 (x : Nat)] w fun e w' => e = .returned (.tuple #[.agg #[.int .i64 (mkS x : Nat), .int .i64 (mkC x : Nat), .int .u64 (mkG x : Nat)], .bool true]) ∧ Below w.heap.size w w' := by
 refine (decode_t (x : Nat) w (by omega) (by omega) (by rw [mkOk_i, h])).mono ?_
 rintro e w' ⟨rfl, hb⟩
 refine ⟨?_, hb⟩
 rw [show ((mkS x : Nat) : Int) = (x : Int) % 4 from by unfold mkS; omega, show ((mkC x : Nat) : Int) = (x : Int) / 4 % 16384 from by unfold mkC; omega, show ((mkG x : Nat) : Int) = (x : Int) / 65536 from by unfold mkG; omega]
theorem mkdec_f (x : Nat) (w : World) (hx : x < 18446744073709551616) (h : mkOk x = false) :
 Calls Tryz.prog 123 #[.int .u64 (x : Nat)] w fun e w' => e = .returned (.tuple #[.agg #[.int .i64 0, .int .i64 0, .int .u64 0], .bool false]) ∧ Below w.heap.size w w' := by
 refine (decode_f (x : Nat) w (by omega) (by omega) (by rw [mkOk_i, h])).mono ?_
 rintro e w' ⟨rfl, hb⟩
 exact ⟨rfl, hb⟩
theorem done_any (v : Value) (I : List Nat) (L ln : Nat) (w : World) (hw : Lw w) (hW : WL I) (hv : KL .u64 w v I) (hg : gOk (I.length : Nat) (L : Nat) = true) (hln : ln < L) (hcm : CalmW (tabW I L)) (hN : I.length ≤ 800) :
 Calls Tryz.prog 121 #[v, .agg #[.int .i64 (I.length : Nat), .int .i64 (L : Nat)], .int .i64 (ln : Nat)] w fun e w' => ∃ v', e = .returned (.tuple #[v', .bool (laneD I L ln).isSome]) ∧ OPL w' v' ((laneD I L ln).getD []) ∧ Below w.heap.size w w' := by
 obtain ⟨nn, hnn⟩ : ∃ n, I.length = n := ⟨_, rfl⟩
 obtain ⟨s1, s2, s3, s4, s5, s6, s7, s8⟩ := pool_size hg
 obtain ⟨M, hM⟩ : ∃ M, 10 + ln = M := ⟨_, rfl⟩
 have hMn : M < nn := by omega
 obtain ⟨x, hx⟩ : ∃ x, I.getD M 0 = x := ⟨_, rfl⟩
 have hxl : x < 18446744073709551616 := by rw [← hx]; exact hW.getN M
 have hcl : mkC x < 16384 := by unfold mkC; omega
 have hgl : mkG x < 18446744073709551616 := by unfold mkG; omega
 have hNo := lh (fun s w1 (hb : Below w.heap.size w w1) => noted_any v I L ln s (mkC x) (mkG x) w1 (hw.keep hb) hW (hv.keep hb) hg hln hcm hN hcl hgl)
 have hDe := lh (fun s w1 (hb : Below w.heap.size w w1) => decided_any v I L ln s (mkC x) (mkG x) w1 hW (hv.keep hb) hg hln hcl)
 have hMk := lh (fun w1 => show Calls Tryz.prog 122 #[.agg #[.int .i64 (nn : Nat), .int .i64 (L : Nat)], .int .i64 (ln : Nat)] w1 (fun e w' => e = .returned (.int .i64 (M : Nat)) ∧ Below w1.heap.size w1 w') from by
  have h := mark_t (nn : Nat) (L : Nat) (ln : Nat) w1 (by unfold lOk; rw [← hnn, hg, Bool.true_and]; exact decide_eq_true (by omega))
  rw [show ((M : Nat) : Int) = 10 + (ln : Int) from by omega]
  exact h)
 have hl : laneD I L ln = (if mkOk x then (if mkS x = 1 then notedD I L ln (mkC x) (mkG x) else if mkS x = 2 then decidedD I L ln (mkC x) else some []) else none) := by unfold laneD; rw [hM, hx]
 obtain ⟨g, off, cap, rfl, hcap, hgs⟩ := hv.addr hnn (by omega)
 have hC := lh (fun w1 (hb : Below w.heap.size w w1) => show w1.cell? ⟨g, off + M, none⟩ = some (.int .u64 (x : Nat)) from by
  obtain ⟨A9, c9, hv9, hK9⟩ := hv.form hnn
  cases hv9
  obtain ⟨g2, o2, hA9, _, _, c0⟩ := hK9 w1 M hb hMn
  cases hA9
  rw [c0, hx])
 rw [hnn] at hNo hDe
 rw [hnn]
 have hA := bZ w (.cells #[.int .i64 (nn : Nat), .int .i64 (L : Nat)] 37)
 have gG := HB.new w #[.int .i64 (nn : Nat), .int .i64 (L : Nat)] 37
 obtain ⟨C, hCC⟩ : ∃ C, w.heap.size = C := ⟨_, rfl⟩
 rw [hCC] at gG
 have hMn' : (M : Int) < (nn : Int) := by omega
 replace hnn := lh hnn
 replace hM := lh hM
 replace hx := lh hx
 clear hW hw hv hg
 cases hok : mkOk x with
 | false =>
   have hno := lh (show laneD I L ln = none from by rw [hl, hok]; rfl)
   have hD := lh (fun w1 => mkdec_f x w1 hxl hok)
   clear hl hok hNo hDe
   go_enter Tryz.func121, Tryz.ntmps121
   obtain ⟨q0, q1⟩ := gG.c2
   go_wp2_with fail
   refine (hMk.out _).mono ?_
   rintro e w1 ⟨rfl, hb1⟩
   have hB1 := hA.trans (hb1.mono hA.size)
   have gG1 := gG.keep hb1
   have c1 := hC.out _ hB1
   clear q0 q1 hb1 hMk gG
   go_wp2_with fail
   refine (hD.out _).mono ?_
   rintro e w2 ⟨rfl, hb2⟩
   have hB2 := hB1.trans (hb2.mono hB1.size)
   have hb3 := bZ w2 (.cells #[.int .i64 0, .int .i64 0, .int .u64 0] 123)
   have hB3 := hB2.trans (hb3.mono hB2.size)
   have gG3 := (gG1.keep hb2).keep hb3
   have gM3 := HB.new w2 #[.int .i64 0, .int .i64 0, .int .u64 0] 123
   clear c1 hb2 hD gG1
   go_wp2_with fail
   go_ret2
   exact ⟨_, by rw [hno.out]; rfl, by rw [hno.out]; exact OPL.nil _, hB3⟩
 | true =>
   have hD := lh (fun w1 => mkdec_t x w1 hxl hok)
   have hl2 : laneD I L ln = (if mkS x = 1 then notedD I L ln (mkC x) (mkG x) else if mkS x = 2 then decidedD I L ln (mkC x) else some []) := by rw [hl, hok]; rfl
   clear hl hok
   generalize mkC x = c at *
   generalize mkG x = gn at *
   by_cases h1 : mkS x = 1
   ·have hyes := lh (show laneD I L ln = notedD I L ln c gn from by rw [hl2, if_pos h1])
    rw [h1] at hD
    replace hD := lh (fun w1 => show Calls Tryz.prog 123 #[.int .u64 (x : Nat)] w1 (fun e w' => e = .returned (.tuple #[.agg #[.int .i64 1, .int .i64 (c : Nat), .int .u64 (gn : Nat)], .bool true]) ∧ Below w1.heap.size w1 w') from hD.out w1)
    replace hNo := lh (fun w1 (hb : Below w.heap.size w w1) => show Calls Tryz.prog 163 #[.slice (some ⟨g, off, none⟩) nn cap, .agg #[.int .i64 (nn : Nat), .int .i64 (L : Nat)], .int .i64 (ln : Nat), .agg #[.int .i64 1, .int .i64 (c : Nat), .int .u64 (gn : Nat)]] w1 (fun e w' => ∃ v', e = .returned (.tuple #[v', .bool (notedD I L ln c gn).isSome]) ∧ OPL w' v' ((notedD I L ln c gn).getD []) ∧ Below w1.heap.size w1 w') from hNo.out 1 w1 hb)
    clear hl2 hDe h1
    go_enter Tryz.func121, Tryz.ntmps121
    obtain ⟨q0, q1⟩ := gG.c2
    go_wp2_with fail
    refine (hMk.out _).mono ?_
    rintro e w1 ⟨rfl, hb1⟩
    have hB1 := hA.trans (hb1.mono hA.size)
    have gG1 := gG.keep hb1
    have c1 := hC.out _ hB1
    clear q0 q1 hb1 hMk gG
    go_wp2_with fail
    refine (hD.out _).mono ?_
    rintro e w2 ⟨rfl, hb2⟩
    have hB2 := hB1.trans (hb2.mono hB1.size)
    have hb3 := bZ w2 (.cells #[.int .i64 1, .int .i64 (c : Nat), .int .u64 (gn : Nat)] 123)
    have hB3 := hB2.trans (hb3.mono hB2.size)
    have gG3 := (gG1.keep hb2).keep hb3
    have gM3 := HB.new w2 #[.int .i64 1, .int .i64 (c : Nat), .int .u64 (gn : Nat)] 123
    clear c1 hb2 hD gG1
    obtain ⟨q0, q1⟩ := gG3.c2
    obtain ⟨m0, m1, m2⟩ : (w2.alloc (.cells #[.int .i64 1, .int .i64 (c : Nat), .int .u64 (gn : Nat)] 123)).cell? ⟨w2.heap.size, 0, none⟩ = some (.int .i64 1) ∧ (w2.alloc (.cells #[.int .i64 1, .int .i64 (c : Nat), .int .u64 (gn : Nat)] 123)).cell? ⟨w2.heap.size, 1, none⟩ = some (.int .i64 (c : Nat)) ∧ (w2.alloc (.cells #[.int .i64 1, .int .i64 (c : Nat), .int .u64 (gn : Nat)] 123)).cell? ⟨w2.heap.size, 2, none⟩ = some (.int .u64 (gn : Nat)) := ⟨(row_cell gM3 0).1, (row_cell gM3 1).1, (row_cell gM3 2).1⟩
    go_wp2_with fail
    refine (hNo.out _ hB3).mono ?_
    rintro e w4 ⟨v', rfl, hO, hb4⟩
    have hB4 := hB3.trans (hb4.mono hB3.size)
    clear q0 q1 m0 m1 m2 hNo hb4
    go_wp2_with fail
    go_ret2
    exact ⟨_, by rw [hyes.out]; rfl, by rw [hyes.out]; exact hO, hB4⟩
   by_cases h2 : mkS x = 2
   ·have hyes := lh (show laneD I L ln = decidedD I L ln c from by rw [hl2, if_neg h1, if_pos h2])
    rw [h2] at hD
    replace hD := lh (fun w1 => show Calls Tryz.prog 123 #[.int .u64 (x : Nat)] w1 (fun e w' => e = .returned (.tuple #[.agg #[.int .i64 2, .int .i64 (c : Nat), .int .u64 (gn : Nat)], .bool true]) ∧ Below w1.heap.size w1 w') from hD.out w1)
    replace hDe := lh (fun w1 (hb : Below w.heap.size w w1) => show Calls Tryz.prog 164 #[.slice (some ⟨g, off, none⟩) nn cap, .agg #[.int .i64 (nn : Nat), .int .i64 (L : Nat)], .int .i64 (ln : Nat), .agg #[.int .i64 2, .int .i64 (c : Nat), .int .u64 (gn : Nat)]] w1 (fun e w' => ∃ v', e = .returned (.tuple #[v', .bool (decidedD I L ln c).isSome]) ∧ OPL w' v' ((decidedD I L ln c).getD []) ∧ Below w1.heap.size w1 w') from hDe.out 2 w1 hb)
    clear hl2 hNo h1 h2
    go_enter Tryz.func121, Tryz.ntmps121
    obtain ⟨q0, q1⟩ := gG.c2
    go_wp2_with fail
    refine (hMk.out _).mono ?_
    rintro e w1 ⟨rfl, hb1⟩
    have hB1 := hA.trans (hb1.mono hA.size)
    have gG1 := gG.keep hb1
    have c1 := hC.out _ hB1
    clear q0 q1 hb1 hMk gG
    go_wp2_with fail
    refine (hD.out _).mono ?_
    rintro e w2 ⟨rfl, hb2⟩
    have hB2 := hB1.trans (hb2.mono hB1.size)
    have hb3 := bZ w2 (.cells #[.int .i64 2, .int .i64 (c : Nat), .int .u64 (gn : Nat)] 123)
    have hB3 := hB2.trans (hb3.mono hB2.size)
    have gG3 := (gG1.keep hb2).keep hb3
    have gM3 := HB.new w2 #[.int .i64 2, .int .i64 (c : Nat), .int .u64 (gn : Nat)] 123
    clear c1 hb2 hD gG1
    obtain ⟨q0, q1⟩ := gG3.c2
    obtain ⟨m0, m1, m2⟩ : (w2.alloc (.cells #[.int .i64 2, .int .i64 (c : Nat), .int .u64 (gn : Nat)] 123)).cell? ⟨w2.heap.size, 0, none⟩ = some (.int .i64 2) ∧ (w2.alloc (.cells #[.int .i64 2, .int .i64 (c : Nat), .int .u64 (gn : Nat)] 123)).cell? ⟨w2.heap.size, 1, none⟩ = some (.int .i64 (c : Nat)) ∧ (w2.alloc (.cells #[.int .i64 2, .int .i64 (c : Nat), .int .u64 (gn : Nat)] 123)).cell? ⟨w2.heap.size, 2, none⟩ = some (.int .u64 (gn : Nat)) := ⟨(row_cell gM3 0).1, (row_cell gM3 1).1, (row_cell gM3 2).1⟩
    go_wp2_with fail
    refine (hDe.out _ hB3).mono ?_
    rintro e w4 ⟨v', rfl, hO, hb4⟩
    have hB4 := hB3.trans (hb4.mono hB3.size)
    clear q0 q1 m0 m1 m2 hDe hb4
    go_wp2_with fail
    go_ret2
    exact ⟨_, by rw [hyes.out]; rfl, by rw [hyes.out]; exact hO, hB4⟩
   have hyes := lh (show laneD I L ln = some [] from by rw [hl2, if_neg h1, if_neg h2])
   generalize mkS x = st at *
   have h1' : ¬ ((st : Nat) : Int) = 1 := by omega
   have h2' : ¬ ((st : Nat) : Int) = 2 := by omega
   clear hl2 hNo hDe h1 h2
   go_enter Tryz.func121, Tryz.ntmps121
   obtain ⟨q0, q1⟩ := gG.c2
   go_wp2_with fail
   refine (hMk.out _).mono ?_
   rintro e w1 ⟨rfl, hb1⟩
   have hB1 := hA.trans (hb1.mono hA.size)
   have gG1 := gG.keep hb1
   have c1 := hC.out _ hB1
   clear q0 q1 hb1 hMk gG
   go_wp2_with fail
   refine (hD.out _).mono ?_
   rintro e w2 ⟨rfl, hb2⟩
   have hB2 := hB1.trans (hb2.mono hB1.size)
   have hb3 := bZ w2 (.cells #[.int .i64 (st : Nat), .int .i64 (c : Nat), .int .u64 (gn : Nat)] 123)
   have hB3 := hB2.trans (hb3.mono hB2.size)
   have gG3 := (gG1.keep hb2).keep hb3
   have gM3 := HB.new w2 #[.int .i64 (st : Nat), .int .i64 (c : Nat), .int .u64 (gn : Nat)] 123
   clear c1 hb2 hD gG1
   obtain ⟨q0, q1⟩ := gG3.c2
   obtain ⟨m0, m1, m2⟩ : (w2.alloc (.cells #[.int .i64 (st : Nat), .int .i64 (c : Nat), .int .u64 (gn : Nat)] 123)).cell? ⟨w2.heap.size, 0, none⟩ = some (.int .i64 (st : Nat)) ∧ (w2.alloc (.cells #[.int .i64 (st : Nat), .int .i64 (c : Nat), .int .u64 (gn : Nat)] 123)).cell? ⟨w2.heap.size, 1, none⟩ = some (.int .i64 (c : Nat)) ∧ (w2.alloc (.cells #[.int .i64 (st : Nat), .int .i64 (c : Nat), .int .u64 (gn : Nat)] 123)).cell? ⟨w2.heap.size, 2, none⟩ = some (.int .u64 (gn : Nat)) := ⟨(row_cell gM3 0).1, (row_cell gM3 1).1, (row_cell gM3 2).1⟩
   go_wp2_with fail
   go_ret2
   exact ⟨_, by rw [hyes.out]; rfl, by rw [hyes.out]; exact OPL.nil _, hB3⟩
end Go.Proofs.YtkkbngcgphlikaaGreatDoor
end
section
namespace Go.Proofs.YtkkbngcgphlikaaGreatDoor
open Go.Lib Go.RowKit Go.ChangeShapes Go.WideShapes Go.Deep Go.Shelf
theorem doN_0 (x : Nat) (o : Ox) (h : o.1 = 0) : doN x o = o.2.2 := by
 unfold doN
 simp [h]
theorem places_sp {l : List Sp} {y : Int} (h : y ∈ placesL l) : ∃ s ∈ l, s.1 ≤ y ∧ y < s.1 + s.2 := by
 unfold placesL at h
 obtain ⟨s, hs, hy⟩ := List.mem_flatMap.1 h
 unfold pwL at hy
 obtain ⟨i, hi, rfl⟩ := List.mem_map.1 hy
 have := List.mem_range.1 hi
 exact ⟨s, hs, by omega, by omega⟩
section
variable {I : List Nat} {L ln : Nat} {m : List Ox}
end
end Go.Proofs.YtkkbngcgphlikaaGreatDoor
end
section
namespace Go.Proofs.YtkkbngcgphlikaaGreatDoor
open Go.Lib Go.RowKit Go.ChangeShapes Go.WideShapes Go.Deep Go.Shelf
def posB (b : Bl) : Nat := b.1 * 32 + b.2.1 * b.2.2
theorem step_of {x r q : Nat} (h : stepT x r = some q) : (kN x = 3 ∧ 0 < r ∧ q = r - 1) ∨ (kN x = 2 ∧ r = 0 ∧ q = mN x - 1) ∨ (¬ kN x = 3 ∧ ¬ kN x = 2 ∧ r = 0 ∧ q = 0) := by
 unfold stepT at h
 split at h
 rotate_left
 ·cases h
 rename_i hd
 simp only [Option.some.injEq] at h
 by_cases h3 : kN x = 3
 ·rw [if_pos h3] at h
  rw [decide_eq_true h3] at hd
  exact .inl ⟨h3, of_decide_eq_true hd.symm, h.symm⟩
 rw [if_neg h3] at h
 rw [decide_eq_false h3] at hd
 have hr : ¬ 0 < r := of_decide_eq_false hd.symm
 by_cases h2 : kN x = 2
 ·rw [if_pos h2] at h; exact .inr (.inl ⟨h2, by omega, h.symm⟩)
 rw [if_neg h2] at h; exact .inr (.inr ⟨h3, h2, by omega, by omega⟩)
theorem runU_len_so : ∀ (u : List Nat) (r : Nat), runU u r = some 0 → r ≤ u.length
 | [], r, h => by cases h; exact Nat.zero_le _
 | x :: u, r, h => by
   rw [runU] at h
   cases hs : stepT x r with
   | none => rw [hs] at h; cases h
   | some q =>
     rw [hs] at h
     have h1 := runU_len_so u q h
     have h2 := step_of hs
     simp only [List.length_cons]
     omega
theorem cls16 (c : Nat) (h : c < 3) : 1 ≤ blN c ∧ ∀ j, j < mnN c → j * blN c + blN c ≤ 32 := by
 have h3 : c = 0 ∨ c = 1 ∨ c = 2 := by omega
 rcases h3 with rfl | rfl | rfl <;> refine ⟨by decide, fun j hj => ?_⟩
 ·have : mnN 0 = 8 := rfl
  show j * 4 + 4 ≤ 32
  omega
 ·have : mnN 1 = 4 := rfl
  show j * 8 + 8 ≤ 32
  omega
 have : mnN 2 = 2 := rfl
 show j * 16 + 16 ≤ 32
 omega
theorem at_pos {i x r q : Nat} (hr : RightN x) (hs : stepT x r = some q) {b : Bl} (hb : b ∈ blksAt i x) : (i + r) * 32 ≤ posB b ∧ posB b + b.2.2 ≤ (i + 1 + q) * 32 := by
 have h2 := step_of hs
 unfold blksAt at hb
 unfold RightN at hr
 split at hb
 ·rename_i hk
  obtain ⟨j, hj, rfl⟩ := List.mem_map.1 hb
  have hj2 := (cls16 (cN x) (by omega)).2 j (live_in hj)
  unfold posB
  simp only []
  omega
 split at hb
 ·rename_i hk
  rw [List.mem_singleton] at hb
  subst hb
  unfold posB
  simp only [Nat.zero_mul]
  omega
 cases hb
theorem at_asc {i x : Nat} (hr : RightN x) : (blksAt i x).Pairwise (fun a b => posB a + a.2.2 ≤ posB b) := by
 unfold blksAt
 split
 ·rename_i hk
  rw [List.pairwise_map]
  refine (live_asc _ _).imp (fun {j k} hjk => ?_)
  unfold posB
  simp only []
  have h1 : (j + 1) * blN (cN x) ≤ k * blN (cN x) := Nat.mul_le_mul_right _ hjk
  rw [Nat.succ_mul] at h1
  omega
 split
 ·exact List.pairwise_singleton _ _
 exact List.Pairwise.nil
theorem asc_from : ∀ (u : List Nat) (i r : Nat), (∀ x ∈ u, okN x = true) → runU u r = some 0 →
 (blksFrom i u).Pairwise (fun a b => posB a + a.2.2 ≤ posB b) ∧ ∀ b ∈ blksFrom i u, (i + r) * 32 ≤ posB b ∧ posB b + b.2.2 ≤ (i + u.length) * 32
 | [], i, r, ho, h => ⟨List.Pairwise.nil, fun b hb => by cases hb⟩
 | x :: u, i, r, ho, h => by
   have hr : RightN x := okN_t (ho x (List.mem_cons_self ..))
   rw [runU] at h
   cases hs : stepT x r with
   | none => rw [hs] at h; cases h
   | some q =>
     rw [hs] at h
     have h' : runU u q = some 0 := h
     obtain ⟨ih1, ih2⟩ := asc_from u (i + 1) q (fun y hy => ho y (List.mem_cons_of_mem _ hy)) h'
     have hlen := runU_len_so u q h'
     have hst := step_of hs
     rw [blksFrom, List.pairwise_append]
     simp only [List.length_cons]
     refine ⟨⟨at_asc hr, ih1, fun a ha b hb => ?_⟩, fun b hb => ?_⟩
     ·have h1 := (at_pos hr hs ha).2
      have h2 := (ih2 b hb).1
      omega
     ·rcases List.mem_append.1 hb with hb | hb
      ·have h1 := at_pos hr hs hb
       omega
      ·have h1 := ih2 b hb
       omega
theorem asc_T {t : List Nat} (h : rightT t = true) : (blksT t).Pairwise (fun a b => posB a + a.2.2 ≤ posB b) ∧ ∀ b ∈ blksT t, posB b + b.2.2 ≤ t.length * 32 := by
 obtain ⟨h1, h2⟩ := rightT_t h
 have h3 := runU_of t t.length 0 (by omega)
 rw [List.drop_zero, h2] at h3
 have h4 : runU t 0 = some 0 := h3
 obtain ⟨h5, h6⟩ := asc_from t 0 0 (fun x hx => List.all_eq_true.1 h1 x hx) h4
 unfold blksT
 rw [if_pos h1]
 exact ⟨h5, fun b hb => by have := (h6 b hb).2; omega⟩
theorem plc_pos (N L : Nat) (b : Bl) : plc N L b = 10 + 73 * L + gNat N L + posB b := by unfold plc posB; omega
end Go.Proofs.YtkkbngcgphlikaaGreatDoor
end
