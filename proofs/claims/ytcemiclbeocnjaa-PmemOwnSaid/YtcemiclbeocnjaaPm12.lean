/-
  The laws of package pmem: PmemOwn.
-/
import Derived.Test.YtcemiclbeocnjaaPm10
import Derived.Test.YtcemiclbeocnjaaRegX
set_option linter.unusedVariables false
set_option linter.unusedSimpArgs false
namespace Go.Proofs.Ytcemiclbeocnjaa
open Go.RowKit Go.ChangeShapes Go.WideShapes Go.Deep Go.Maps

theorem load0 (l : List Nat) (k : Nat) (h : k < l.length) : loadD (dv0 l) (k : Int) = l.getD k 0 := by
  unfold loadD
  rw [if_pos (by simp [hasD, dv0]; omega)]
  rfl
set_option maxRecDepth 10000 in
set_option maxHeartbeats 4000000 in
theorem pmemOwn_far (v : Value) (l : List Nat) (a x : Int) (w : World) (hv : KL .u64 w v l) (hz : l.length ≤ 140737488355328) (h : l.length = 0 ∨ 30 < l.length) :
    Calls Try.prog 5 #[v, .int .u8 a, .int .u64 x] w fun e w' => e = .returned (.bool true) ∧ Below w.heap.size w w' := by
  have hAw := awake3_any w
  obtain ⟨n, hn⟩ : ∃ n, l.length = n := ⟨_, rfl⟩
  obtain ⟨A, cap, rfl, _⟩ := hv.form hn
  rw [hn] at h hz
  clear hv
  rcases h with rfl | h
  · go_enter Try.func5, Try.ntmps5
    go_wp2_with (go_at_call 11; refine hAw.mono ?_; rintro e w1 ⟨rfl, hb1⟩; clear hAw)
    go_ret
    exact ⟨rfl, hb1⟩
  · have h3 : (30 : Int) < (n : Int) := by omega
    have h4 : ¬ (n : Int) = 0 := by omega
    go_enter Try.func5, Try.ntmps5
    go_wp2_with (go_at_call 11; refine hAw.mono ?_; rintro e w1 ⟨rfl, hb1⟩; clear hAw)
    go_ret
    exact ⟨rfl, hb1⟩
set_option maxRecDepth 10000 in
set_option maxHeartbeats 4000000 in
theorem pmemOwn (v : Value) (l : List Nat) (a : Nat) (x : Int) (w : World) (hv : KL .u64 w v l) (hz : l.length ≤ 140737488355328) (ha : a < 256) :
    Calls Try.prog 5 #[v, .int .u8 (a : Nat), .int .u64 x] w fun e w' => e = .returned (.bool true) ∧ Below w.heap.size w w' := by
  by_cases hfar : l.length = 0 ∨ 30 < l.length
  · exact pmemOwn_far v l a x w hv hz hfar
  have hAw := awake3_any w
  obtain ⟨n, hn⟩ : ∃ n, l.length = n := ⟨_, rfl⟩
  have hvh := Lib.hid hv
  obtain ⟨A, cap, rfl, _⟩ := hv.form hn
  have h0b : ((n : Int) == 0) = false := by simp; omega
  have h30 : ¬ 30 < (n : Int) := by omega
  obtain ⟨k, hk⟩ : ∃ k, a % n = k := ⟨_, rfl⟩
  have hkn : k < n := by rw [← hk]; exact Nat.mod_lt _ (by omega)
  have hk1 : ((a : Nat) : Int) % ((n : Nat) : Int) = (k : Int) := by rw [← hk]; exact (Int.natCast_emod a n).symm
  have hk2 : Int.tmod ((a : Nat) : Int) ((n : Nat) : Int) = (k : Int) := by rw [Int.tmod_eq_emod_of_nonneg (by omega)]; exact hk1
  have hkn2 : (k : Int) < (n : Int) := by omega
  have hl1 : 1 ≤ n := by omega
  have hl30 : n ≤ 30 := by omega
  obtain ⟨c, hc⟩ : ∃ c, IntKind.u64.wrap (x + 1) = c := ⟨_, rfl⟩
  have hnh := Lib.hid hn
  have hG := Lib.hid ((GoodK.zero l).good (by omega) (by omega) (by decide))
  have hLd := Lib.hid (load0 l k (by omega))
  clear hv hk hfar hn
  go_enter Try.func5, Try.ntmps5
  go_wp2_with (first
    | (go_at_call 11; refine hAw.mono ?_; rintro e w1 ⟨rfl, hb1⟩; clear hAw
       obtain ⟨vg, w2, hrun, ho, hb2⟩ := newW (hvh.out.keep hb1) (by rw [hnh.out]; omega)
       obtain ⟨Ag, cg, rfl, hAg⟩ := ho.form
       obtain ⟨g, rfl, hg1, hg2⟩ := hAg (by rw [hnh.out]; omega)
       rw [hnh.out] at hrun ho
       replace ho := Lib.hid ho
       replace hb2 := Lib.hid hb2
       clear hAg)
    | (at_builtin; refine wpList_append_run rfl _ _ 22 rfl _ _ _ rfl rfl hrun ?_; clear hrun)
    | (go_at_call 13; refine (dOpen _ l _ (by rw [hnh.out]; omega) (by rw [hnh.out]; omega) ho.out.kl).mono ?_; rintro e w3 ⟨B, F, rfl, hO, hF, hb3⟩
       have ho3 := ho.out.keep hb3
       obtain ⟨c3, f3⟩ := ho3.cell hnh.out hkn
       have hO3 := hO.chg (Chg.setCell (S := fun j => j = g) w3 g k (.int .u64 x) rfl) (fun j q e => by have := hF j q; omega)
       have hb3w := Lib.hid ((hb1.trans (hb2.out.mono hb1.size)).trans (hb3.mono (by have := hb2.out.size; have := hb1.size; omega)))
       have hbs : Below w.heap.size w3 (w3.setCell ⟨g, k, none⟩ (.int .u64 x)) := (Below.refl _ _).setCell (by simp; have := hb1.size; omega) _
       have hb4w := Lib.hid (hb3w.out.trans hbs)
       replace hF := Lib.hid hF
       clear hO hb3 hbs)
    | (go_at_call 25; refine (dImage B F (dv0 l) _ hO3 (by show l.length ≤ 1000; rw [hnh.out]; omega)).mono ?_; rintro e w4 ⟨vi, rfl, hoI, hb4⟩
       obtain ⟨Ai, ci, rfl, hAi⟩ := hoI.form
       rw [show (dv0 l).L.length = n from hnh.out] at *
       obtain ⟨gi, rfl, hgi1, hgi2⟩ := hAi (by omega)
       obtain ⟨c4, f4⟩ := hoI.cell (show (dv0 l).L.length = n from hnh.out) hkn
       have hO4 := hO3.keep hb4
       have hO5 := Lib.hid (hO4.chg (Chg.setCell (S := fun j => j = gi) w4 gi k (.int .u64 c) rfl) (fun j q e => by have := hO3.lt j q; omega))
       have hbs : Below w.heap.size w4 (w4.setCell ⟨gi, k, none⟩ (.int .u64 c)) := (Below.refl _ _).setCell (by simp; have := hb4w.out.size; omega) _
       have hb5w := Lib.hid ((hb4w.out.trans (hb4.mono hb4w.out.size)).trans hbs)
       clear hO3 hO4 hb4 hbs hAi hoI))
  obtain ⟨W, hW⟩ : ∃ W, W = w4.setCell ⟨gi, k, none⟩ (.int .u64 c) := ⟨_, rfl⟩
  rw [← hW] at hO5 hb5w ⊢
  have hDh := Lib.hid (fun w' (hb : Below W.heap.size W w') => hO5.out.keep hb)
  have hvW := Lib.hid (hvh.out.keep hb5w.out)
  obtain ⟨A2, cap2, he, hcc⟩ := hvW.out.form hnh.out
  obtain ⟨gs, os, rfl, hcaps, hgs, _⟩ := hcc W k (Below.refl _ _) hkn
  cases he
  have cxx := Lib.hid (fun w' (hb : Below W.heap.size W w') => (hcc w' k hb hkn).elim fun g h => h.elim fun o h => show w'.cell? ⟨gs, os + k, none⟩ = some (.int .u64 (l.getD k 0 : Nat)) from by
    obtain ⟨h1, _, _, h4⟩ := h
    cases h1
    exact h4)
  have hkc : (k : Int) ≤ (cap : Int) := by omega
  generalize hy : l.getD k 0 = y at *
  replace hy := Lib.hid hy
  clear hcc hO5 hW c3 f3 c4 f4 hc
  have hlm := Lib.hid (show (dv0 l).L.length ≤ 1000 from by show l.length ≤ 1000; rw [hnh.out]; omega)
  refine wp_region_held_drew (S := (fun w' => Below W.heap.size W w')) (by kernel_rfl) ?_ (fun hHeld => ?_)
  · (try dsimp only)
    (first | assumption | (exact (Below.refl _ _).drew) | (exact Below.trans hHeld (hb.mono (Below.size hHeld))))
  refine takeL 0 (v := ?_) rfl (by kernel_rfl) (by kernel_rfl) (by kernel_rfl) (fun _ _ _ h => h) (by rfl) (by assumption) ?_ ?_
  rotate_left
  · (intro w hSw; (try dsimp only at hSw); (try go_split_ands); go_simp <;> with_reducible rfl)
  try simp only [Act.put, List.setIfInBounds_toArray, List.set_cons_zero, List.set_cons_succ]
  refine takeL 1 (v := ?_) rfl (by kernel_rfl) (by kernel_rfl) (by kernel_rfl) (fun _ _ _ h => h) (by rfl) (by assumption) ?_ ?_
  rotate_left
  · (intro w hSw; (try dsimp only at hSw); (try go_split_ands); go_simp <;> with_reducible rfl)
  try simp only [Act.put, List.setIfInBounds_toArray, List.set_cons_zero, List.set_cons_succ]
  refine takeL 2 (v := ?_) rfl (by kernel_rfl) (by kernel_rfl) (by kernel_rfl) (fun _ _ _ h => h) (by rfl) (by assumption) ?_ ?_
  rotate_left
  · (intro w hSw; (try dsimp only at hSw); (try go_split_ands); go_simp <;> with_reducible rfl)
  try simp only [Act.put, List.setIfInBounds_toArray, List.set_cons_zero, List.set_cons_succ]
  refine takeL 4 (v := ?_) rfl (by kernel_rfl) (by kernel_rfl) (by kernel_rfl) (fun _ _ _ h => h) (by rfl) (by assumption) ?_ ?_
  rotate_left
  · (intro w hSw; (try dsimp only at hSw); (try go_split_ands); go_simp <;> with_reducible rfl)
  try simp only [Act.put, List.setIfInBounds_toArray, List.set_cons_zero, List.set_cons_succ]
  refine oneL 3 rfl (by kernel_rfl) (fun K hK => ?_)
  go_simp
  ((with_reducible refine (dImage B F (dv0 l) _ (hDh.out _ (by assumption)) hlm.out).mono ?_); rintro e w9 ⟨v9, rfl, ho9, hb⟩; have hi9 : KL .u64 w9 v9 l := ho9.kl; obtain ⟨A9, c9, rfl, _⟩ := hi9.form hnh.out; clear ho9)
  refine hK.out _ _ ?_ (fun hHeld2 => ?_)
  · (try dsimp only)
    (first | assumption | (exact (Below.refl _ _).drew) | (exact Below.trans hHeld (hb.mono (Below.size hHeld))))
  clear hK K hHeld
  have hHeld := hHeld2
  clear hHeld2
  try simp only [Act.put, List.setIfInBounds_toArray, List.set_cons_zero, List.set_cons_succ]
  refine oneL 5 rfl (by kernel_rfl) (fun K hK => ?_)
  go_simp
  ((with_reducible refine (words_any _ _ l l _ (by rw [hnh.out]; omega) hi9 (hvW.out.keep (by assumption))).mono ?_); rintro e w10 ⟨rfl, hb⟩; rw [show decide (l = l) = true by simp]; clear hi9)
  refine hK.out _ _ ?_ (fun hHeld2 => ?_)
  · (try dsimp only)
    (first | assumption | (exact (Below.refl _ _).drew) | (exact Below.trans hHeld (hb.mono (Below.size hHeld))))
  clear hK K hHeld
  have hHeld := hHeld2
  clear hHeld2
  try simp only [Act.put, List.setIfInBounds_toArray, List.set_cons_zero, List.set_cons_succ]
  refine takeL 6 (v := ?_) rfl (by kernel_rfl) (by kernel_rfl) (by kernel_rfl) (fun _ _ _ h => h) (by rfl) (by assumption) ?_ ?_
  rotate_left
  · (intro w hSw; (try dsimp only at hSw); (try go_split_ands); go_simp <;> with_reducible rfl)
  try simp only [Act.put, List.setIfInBounds_toArray, List.set_cons_zero, List.set_cons_succ]
  refine takeL 7 (v := ?_) rfl (by kernel_rfl) (by kernel_rfl) (by kernel_rfl) (fun _ _ _ h => h) (by rfl) (by assumption) ?_ ?_
  rotate_left
  · (intro w hSw; (try dsimp only at hSw); (try go_split_ands); go_simp <;> with_reducible rfl)
  try simp only [Act.put, List.setIfInBounds_toArray, List.set_cons_zero, List.set_cons_succ]
  refine takeL 8 (v := ?_) rfl (by kernel_rfl) (by kernel_rfl) (by kernel_rfl) (fun _ _ _ h => h) (by rfl) (by assumption) ?_ ?_
  rotate_left
  · (intro w hSw; (try dsimp only at hSw); (try go_split_ands); go_simp <;> with_reducible rfl)
  try simp only [Act.put, List.setIfInBounds_toArray, List.set_cons_zero, List.set_cons_succ]
  refine takeL 9 (v := ?_) rfl (by kernel_rfl) (by kernel_rfl) (by kernel_rfl) (fun _ _ _ h => h) (by rfl) (by assumption) ?_ ?_
  rotate_left
  · (intro w hSw; (try dsimp only at hSw); (try go_split_ands); go_simp <;> with_reducible rfl)
  try simp only [Act.put, List.setIfInBounds_toArray, List.set_cons_zero, List.set_cons_succ]
  refine takeL 11 (v := ?_) rfl (by kernel_rfl) (by kernel_rfl) (by kernel_rfl) (fun _ _ _ h => h) (by rfl) (by assumption) ?_ ?_
  rotate_left
  · (intro w hSw; (try dsimp only at hSw); (try go_split_ands); go_simp <;> with_reducible rfl)
  try simp only [Act.put, List.setIfInBounds_toArray, List.set_cons_zero, List.set_cons_succ]
  refine takeL 12 (v := ?_) rfl (by kernel_rfl) (by kernel_rfl) (by kernel_rfl) (fun _ _ _ h => h) (by rfl) (by assumption) ?_ ?_
  rotate_left
  · (intro w hSw; (try dsimp only at hSw); (try go_split_ands); go_simp <;> with_reducible rfl)
  try simp only [Act.put, List.setIfInBounds_toArray, List.set_cons_zero, List.set_cons_succ]
  refine takeL 13 (v := ?_) rfl (by kernel_rfl) (by kernel_rfl) (by kernel_rfl) (fun _ _ _ h => h) (by rfl) (by assumption) ?_ ?_
  rotate_left
  · (intro w hSw; (try dsimp only at hSw); (try go_split_ands); go_simp <;> with_reducible rfl)
  try simp only [Act.put, List.setIfInBounds_toArray, List.set_cons_zero, List.set_cons_succ]
  refine takeL 14 (v := ?_) rfl (by kernel_rfl) (by kernel_rfl) (by kernel_rfl) (fun _ _ _ h => h) (by rfl) (by assumption) ?_ ?_
  rotate_left
  · (intro w hSw; (try dsimp only at hSw); have cx := cxx.out w hSw; go_simp <;> with_reducible rfl)
  try simp only [Act.put, List.setIfInBounds_toArray, List.set_cons_zero, List.set_cons_succ]
  refine oneL 10 rfl (by kernel_rfl) (fun K hK => ?_)
  go_simp
  ((with_reducible refine (dLoad B F (dv0 l) (k : Int) _ (hDh.out _ (by assumption)) hG.out).mono ?_); rintro e w8 ⟨rfl, rfl⟩; rw [hLd.out])
  refine hK.out _ _ ?_ (fun hHeld2 => ?_)
  · (try dsimp only)
    (first | assumption | (exact (Below.refl _ _).drew) | (exact Below.trans hHeld (hb.mono (Below.size hHeld))))
  clear hK K hHeld
  have hHeld := hHeld2
  clear hHeld2
  try simp only [Act.put, List.setIfInBounds_toArray, List.set_cons_zero, List.set_cons_succ]
  refine takeL 15 (v := ?_) rfl (by kernel_rfl) (by kernel_rfl) (by kernel_rfl) (fun _ _ _ h => h) (by rfl) (by assumption) ?_ ?_
  rotate_left
  · (intro w hSw; (try dsimp only at hSw); (try go_split_ands); go_simp <;> with_reducible rfl)
  try simp only [Act.put, List.setIfInBounds_toArray, List.set_cons_zero, List.set_cons_succ]
  refine takeL 16 (v := ?_) rfl (by kernel_rfl) (by kernel_rfl) (by kernel_rfl) (fun _ _ _ h => h) (by rfl) (by assumption) ?_ ?_
  rotate_left
  · (intro w hSw; (try dsimp only at hSw); (try go_split_ands); go_simp <;> with_reducible rfl)
  try simp only [Act.put, List.setIfInBounds_toArray, List.set_cons_zero, List.set_cons_succ]
  refine takeL 17 (v := ?_) rfl (by kernel_rfl) (by kernel_rfl) (by kernel_rfl) (fun _ _ _ h => h) (by rfl) (by assumption) ?_ ?_
  rotate_left
  · (intro w hSw; (try dsimp only at hSw); (try go_split_ands); go_simp <;> with_reducible rfl)
  try simp only [Act.put, List.setIfInBounds_toArray, List.set_cons_zero, List.set_cons_succ]
  refine wpAnyH_done (by kernel_rfl) ?_ _
  go_wp2_with fail
  go_ret
  exact ⟨rfl, hb5w.out.trans (hHeld.mono hb5w.out.size)⟩
end Go.Proofs.Ytcemiclbeocnjaa
