/-
  Layer 20 (tx): the code's New, Begin, End, Spoil, Spoilt, Name, Named.
-/
import Derived.Test.YtcemiclbeocnjaaTk1
set_option linter.unusedVariables false
set_option linter.unusedSimpArgs false
namespace Go.Proofs.Ytcemiclbeocnjaa
open Go.RowKit Go.ChangeShapes Go.WideShapes Go.Deep Go.Maps

theorem map_new (w : World) : MapF (w.alloc (.map #[] 0)) w.heap.size 0 (fun _ => none) := ⟨_, World.ownsMap_made (H := Unit) w Try.prog 3 fR, PicF.nil⟩

set_option maxHeartbeats 1000000 in
theorem New_any (w : World) : Calls Try.prog 31 #[] w fun e w' => ∃ B F, e = .returned (.pointer (some ⟨B, 0, none⟩)) ∧ TxAt w' B F st0 ∧ (∀ k, F k → w.heap.size ≤ k) ∧ Below w.heap.size w w' := by
  have hmm := @run_makeMap Try.prog
  have hM := map_new w
  have hB : Below w.heap.size w ((w.alloc (.map #[] 0)).alloc (.cells (txc (.slice none 0 0) w.heap.size (.slice none 0 0) st0) (109 : Nat))) := ((Below.refl _ _).alloc (Nat.le_refl _) _).alloc (by rw [World.size_alloc]; omega) _
  have hR : TxR ((w.alloc (.map #[] 0)).alloc (.cells (txc (.slice none 0 0) w.heap.size (.slice none 0 0) st0) (109 : Nat))) (w.heap.size + 1) w.heap.size (.slice none 0 0) (.slice none 0 0) (fun k => k = w.heap.size + 1 ∨ k = w.heap.size) st0 :=
    ⟨by have := World.alloc_heap_new (w.alloc (.map #[] 0)) (.cells (txc (.slice none 0 0) w.heap.size (.slice none 0 0) st0) (109 : Nat)); rwa [World.size_alloc] at this, OwnSp.nil _ _, hM.keep ((Below.refl _ _).alloc (Nat.le_refl _) _), OwnE.nil _ _ _ _ _, .inl rfl, .inr rfl, fun k e => (by cases e), fun k e => (by cases e), fun k e => (by simp only [World.size_alloc] at *; omega)⟩
  replace hB := Lib.hid hB
  replace hR := Lib.hid hR
  clear hM
  go_enter Try.func31, Try.ntmps31
  go_wp2_with fail
  go_ret
  exact ⟨_, _, rfl, ⟨_, _, _, hR.out⟩, fun k e => by rcases e with e | e <;> omega, hB.out⟩

set_option maxHeartbeats 1000000 in
theorem Begin_any (B : Nat) (F : Nat → Prop) (s : St) (w : World) (h : TxAt w B F s) (h0 : 0 ≤ s.depth) (hd : s.depth ≤ 1000000) :
    Calls Try.prog 44 #[.pointer (some ⟨B, 0, none⟩)] w fun e w' => e = .returned (.int .i64 (s.depth + 1)) ∧ TxAt w' B F { s with depth := s.depth + 1 } ∧ Chg F w w' := by
  obtain ⟨M, v0, v4, hR⟩ := h
  obtain ⟨⟨c0, c1, c2, c3, c4, c5, c6⟩, fz⟩ := hR.cells
  have f2 := fz 2
  have hP := Lib.hid (hR.put (o := 2) (u := .int .i64 (s.depth + 1)) (s' := { s with depth := s.depth + 1 }) rfl rfl rfl rfl rfl)
  have hF := Lib.hid hR.fB
  clear hR fz c0 c1 c3 c4 c5 c6
  obtain ⟨noted, fresh, n, depth, bad, gone, root, named⟩ := s
  simp only [] at *
  go_enter Try.func44, Try.ntmps44
  go_wp2_with fail
  go_ret
  exact ⟨rfl, ⟨_, _, _, hP.out⟩, Chg.setCell _ _ _ _ hF.out⟩

set_option maxHeartbeats 1000000 in
theorem End_any (B : Nat) (F : Nat → Prop) (s : St) (w : World) (h : TxAt w B F s) (h0 : 0 ≤ s.depth) (hd : s.depth ≤ 1000000) :
    Calls Try.prog 45 #[.pointer (some ⟨B, 0, none⟩)] w fun e w' => e = .returned (.int .i64 (max (s.depth - 1) 0)) ∧ TxAt w' B F { s with depth := max (s.depth - 1) 0 } ∧ Chg F w w' := by
  obtain ⟨M, v0, v4, hR⟩ := h
  obtain ⟨⟨c0, c1, c2, c3, c4, c5, c6⟩, fz⟩ := hR.cells
  have f2 := fz 2
  have hP := Lib.hid (hR.put (o := 2) (u := .int .i64 (max (s.depth - 1) 0)) (s' := { s with depth := max (s.depth - 1) 0 }) rfl rfl rfl rfl rfl)
  have hF := Lib.hid hR.fB
  clear hR fz c0 c1 c3 c4 c5 c6
  obtain ⟨noted, fresh, n, depth, bad, gone, root, named⟩ := s
  simp only [] at *
  obtain ⟨d, hdd⟩ : ∃ d, max (depth - 1) 0 = d := ⟨_, rfl⟩
  rw [hdd] at hP ⊢
  have hm : (if depth - 1 < 0 then (0 : Int) else depth - 1) = d := by rw [← hdd]; split <;> omega
  have hm2 : (if (0 : Int) ≤ depth - 1 then depth - 1 else (0 : Int)) = d := by rw [← hdd]; split <;> omega
  have hm3 : (if depth - 1 ≤ 0 then (0 : Int) else depth - 1) = d := by rw [← hdd]; split <;> omega
  clear hdd
  go_enter Try.func45, Try.ntmps45
  go_wp2_with fail
  go_ret
  exact ⟨rfl, ⟨_, _, _, hP.out⟩, Chg.setCell _ _ _ _ hF.out⟩

set_option maxHeartbeats 1000000 in
theorem Spoil_any (B : Nat) (F : Nat → Prop) (s : St) (w : World) (h : TxAt w B F s) :
    Calls Try.prog 65 #[.pointer (some ⟨B, 0, none⟩)] w fun e w' => e = .returned (.tuple #[]) ∧ TxAt w' B F { s with bad := true } ∧ Chg F w w' := by
  obtain ⟨M, v0, v4, hR⟩ := h
  obtain ⟨⟨c0, c1, c2, c3, c4, c5, c6⟩, fz⟩ := hR.cells
  have f3 := fz 3
  have hP := Lib.hid (hR.put (o := 3) (u := .bool true) (s' := { s with bad := true }) rfl rfl rfl rfl rfl)
  have hF := Lib.hid hR.fB
  clear hR fz c0 c1 c2 c4 c5 c6
  obtain ⟨noted, fresh, n, depth, bad, gone, root, named⟩ := s
  simp only [] at *
  go_enter Try.func65, Try.ntmps65
  go_wp2_with fail
  go_end0
  exact ⟨rfl, ⟨_, _, _, hP.out⟩, Chg.setCell _ _ _ _ hF.out⟩

set_option maxHeartbeats 1000000 in
theorem Spoilt_any (B : Nat) (F : Nat → Prop) (s : St) (w : World) (h : TxAt w B F s) :
    Calls Try.prog 47 #[.pointer (some ⟨B, 0, none⟩)] w fun e w' => e = .returned (.bool s.bad) ∧ w' = w := by
  obtain ⟨M, v0, v4, hR⟩ := h
  obtain ⟨⟨c0, c1, c2, c3, c4, c5, c6⟩, fz⟩ := hR.cells
  clear hR fz c0 c1 c2 c4 c5 c6
  obtain ⟨noted, fresh, n, depth, bad, gone, root, named⟩ := s
  simp only [] at *
  go_enter Try.func47, Try.ntmps47
  go_wp2_with fail
  go_ret
  exact ⟨rfl, rfl⟩

set_option maxHeartbeats 1000000 in
theorem Name_any (B : Nat) (F : Nat → Prop) (s : St) (at_ : Int) (w : World) (h : TxAt w B F s) :
    Calls Try.prog 71 #[.pointer (some ⟨B, 0, none⟩), .int .i64 at_] w fun e w' => e = .returned (.tuple #[]) ∧ TxAt w' B F { s with root := at_, named := true } ∧ Chg F w w' := by
  obtain ⟨M, v0, v4, hR⟩ := h
  obtain ⟨⟨c0, c1, c2, c3, c4, c5, c6⟩, fz⟩ := hR.cells
  have f5 := fz 5
  have f6 := fz 6
  have hP := Lib.hid ((hR.put (o := 5) (u := .int .i64 at_) (s' := { s with root := at_ }) rfl rfl rfl rfl rfl).put (o := 6) (u := .bool true) (s' := { s with root := at_, named := true }) rfl rfl rfl rfl rfl)
  have hF := Lib.hid hR.fB
  clear hR fz c0 c1 c2 c3 c4
  obtain ⟨noted, fresh, n, depth, bad, gone, root, named⟩ := s
  simp only [] at *
  go_enter Try.func71, Try.ntmps71
  go_wp2_with fail
  go_end0
  exact ⟨rfl, ⟨_, _, _, hP.out⟩, (Chg.setCell _ _ _ _ hF.out).trans (Chg.setCell _ _ _ _ hF.out) (fun j q => .inl q)⟩

set_option maxHeartbeats 1000000 in
theorem Named_any (B : Nat) (F : Nat → Prop) (s : St) (w : World) (h : TxAt w B F s) :
    Calls Try.prog 46 #[.pointer (some ⟨B, 0, none⟩)] w fun e w' => e = .returned (.tuple #[.int .i64 s.root, .bool s.named]) ∧ Below w.heap.size w w' := by
  obtain ⟨M, v0, v4, hR⟩ := h
  obtain ⟨⟨c0, c1, c2, c3, c4, c5, c6⟩, fz⟩ := hR.cells
  clear hR fz c0 c1 c2 c3 c4
  obtain ⟨noted, fresh, n, depth, bad, gone, root, named⟩ := s
  simp only [] at *
  go_enter Try.func46, Try.ntmps46
  go_wp2_with fail
  go_region_held3 (fun w' => w'.cell? ⟨B, 5, none⟩ = some (.int .i64 root) ∧ w'.cell? ⟨B, 6, none⟩ = some (.bool named) ∧ Below w.heap.size w w')
    (((try go_split_ands); refine ⟨?_, ?_, ?_⟩ <;> first | assumption | (exact (Below.refl _ _).drew)))
    (fail)
  go_split_ands
  go_wp2_with fail
  go_ret2
  exact ⟨rfl, by assumption⟩
end Go.Proofs.Ytcemiclbeocnjaa
