/-
  Part of the proof of JournalUndo.
-/
import Derived.Test.YtkkbngcgphlikaaGreatDoorJu42
import Derived.Test.YtkkbngcgphlikaaGreatDoorJu0
set_option maxRecDepth 10000
set_option maxHeartbeats 2000000
set_option linter.unusedVariables false
set_option linter.unusedSimpArgs false
section
namespace Go.Proofs.YtkkbngcgphlikaaGreatDoor
open Go.Lib Go.RowKit Go.ChangeShapes Go.WideShapes Go.Deep Go.Shelf
theorem h40J {I : List Nat} (h : I.length ≤ 1000) (x : Nat) : gNat I.length x ≤ 40 := by
 unfold gNat gN
 omega
theorem viewD_WL {s : Dv} (h : WD s) : WL (viewD s) := fun x hx => by
 unfold viewD at hx
 obtain ⟨i, -, rfl⟩ := List.mem_map.1 hx
 exact h.load _
theorem WD.lay {s : Dv} (h : WD s) (x : Int) {v : Nat} (hv : v < 18446744073709551616) : WD (layD s x v) := Al.lay h x v (fun _ _ _ => hv)
end Go.Proofs.YtkkbngcgphlikaaGreatDoor
end
section
namespace Go.Proofs.YtkkbngcgphlikaaGreatDoor
theorem inter_in (s : Sp) (K : Int) : ∀ (l : List Sp) (n : Int), (∀ x ∈ l, 0 ≤ x.1 ∧ x.1 + x.2 ≤ K) → ∀ y ∈ interL s n l, 0 ≤ y.1 ∧ 0 ≤ y.2 ∧ y.1 + y.2 ≤ K
 | [], _, _, y, hy => by simp [interL] at hy
 | x :: l, n, h, y, hy => by
   have hx := h x (by simp)
   simp only [interL] at hy
   rcases List.mem_append.1 hy with hy | hy
   ·unfold inter1 at hy
    split at hy
    ·simp at hy; subst hy; simp only []; omega
    ·simp at hy
   ·exact inter_in s K l (n + x.2) (fun z hz => h z (by simp [hz])) y hy
theorem cut_in {l : List Sp} (s : Sp) {K : Int} (h : ∀ x ∈ l, 0 ≤ x.1 ∧ x.1 + x.2 ≤ K) : ∀ y ∈ cutL l s, 0 ≤ y.1 ∧ 0 ≤ y.2 ∧ y.1 + y.2 ≤ K := by
 unfold cutL
 split
 ·exact fun x hx => by simp at hx
 split
 ·exact inter_in s K l 0 h
 exact fun x hx => by simp at hx
theorem logP_in {I : List Nat} {N L ln : Nat} (hgk : gOk (N : Nat) (L : Nat) = true) (hN : N ≤ 1000) : (∀ x ∈ logP I (N : Nat) (L : Nat) (ln : Nat), 0 ≤ x.1 ∧ x.1 + x.2 ≤ (N : Int)) ∧ (logP I (N : Nat) (L : Nat) (ln : Nat)).length ≤ 41 := by
 unfold logP
 cases hb : laneB I (N : Nat) (L : Nat) (ln : Nat) with
 | false => exact ⟨fun x hx => (by simp at hx), by simp⟩
 | true =>
   rw [if_pos rfl]
   have hb2 := hb
   unfold laneB readB at hb2
   simp only [Bool.and_eq_true, decide_eq_true_eq] at hb2
   obtain ⟨⟨-, hN3, -⟩, -, hl⟩ := hb2
   have hN' : I.length = N := by omega
   rw [Int.toNat_natCast, Int.toNat_natCast]
   have hg : gOk (I.length : Nat) (L : Nat) = true := by rw [hN']; exact hgk
   have h1 := logSp_len (ln := ln) hg
   have h2 := h40J (I := I) (by omega) L
   refine ⟨fun x hx => ?_, by omega⟩
   have h3 := logSp_in hg (show ln < L by omega) x hx
   omega
theorem roomJ_in (s : Dv) {N L ln : Nat} (m : Nat) (hgk : gOk (N : Nat) (L : Nat) = true) (hN : N ≤ 1000) : (∀ y ∈ roomJ s N L ln m, 0 ≤ y.1 ∧ 0 ≤ y.2 ∧ y.1 + y.2 ≤ (N : Int)) ∧ (roomJ s N L ln m).length ≤ 41 := by
 obtain ⟨h1, h2⟩ := logP_in (I := viewD s) (ln := ln) hgk hN
 unfold roomJ
 exact ⟨cut_in _ h1, Nat.le_trans (cut_pb _ (logP_PB hgk hN).1).2 h2⟩
theorem roomJ_PS (s : Dv) {N L ln : Nat} (m : Nat) (hgk : gOk (N : Nat) (L : Nat) = true) (hN : N ≤ 1000) : PS (roomJ s N L ln m) := fun x hx => by
 have := (roomJ_in s m hgk hN).1 x hx
 omega
end Go.Proofs.YtkkbngcgphlikaaGreatDoor
end
section
namespace Go.Proofs.YtkkbngcgphlikaaGreatDoor
theorem has_store (s : Dv) (x : Int) (v : Nat) (y : Int) : hasD (storeD s x v) y = hasD s y := by
 unfold hasD
 rw [(store_L s x v).1]
theorem steps_stoR (s : Dv) (room : List Sp) (ws : List Nat) (hd : s.dead = false) (hf : s.fuse = 0) : ∀ k, (∀ i, i < k → hasD s (atL room (i : Nat)) = true) →
 (stoR s room ws k).steps = s.steps + (k : Int) ∧ (stoR s room ws k).dead = false ∧ (stoR s room ws k).fuse = 0 ∧ (∀ y, hasD (stoR s room ws k) y = hasD s y)
 | 0, _ => ⟨by show s.steps = s.steps + 0; omega, hd, hf, fun _ => rfl⟩
 | k + 1, h => by
   obtain ⟨h1, h2, h3, h4⟩ := steps_stoR s room ws hd hf k (fun i hi => h i (by omega))
   rw [stoR_succ]
   obtain ⟨e1, e2, e3⟩ := steps_store h2 h3 (by rw [h4]; exact h k (by omega)) (ws.getD k 0)
   exact ⟨by rw [e1, h1]; push_cast; omega, e2, e3, fun y => by rw [has_store, h4]⟩
theorem steps_flushL : ∀ (l : List Sp) {s : Dv}, s.dead = false → s.fuse = 0 → (flushL s l).steps = s.steps + (l.length : Int) ∧ (flushL s l).dead = false ∧ (flushL s l).fuse = 0
 | [], s, hd, hf => ⟨by show s.steps = s.steps + 0; omega, hd, hf⟩
 | x :: l, s, hd, hf => by
   obtain ⟨e1, e2, e3⟩ := steps_flush hd hf x.1 x.2
   obtain ⟨h1, h2, h3⟩ := steps_flushL l e2 e3
   refine ⟨?_, h2, h3⟩
   have h4 : (flushL s (x :: l)).steps = s.steps + 1 + (l.length : Int) := by rw [← e1]; exact h1
   rw [h4, List.length_cons]
   push_cast
   omega
theorem steps_fenceL (l : List Sp) {s : Dv} (hd : s.dead = false) (hf : s.fuse = 0) : (fenceL s l).steps = s.steps + (l.length : Int) + 1 ∧ (fenceL s l).dead = false ∧ (fenceL s l).fuse = 0 := by
 obtain ⟨h1, h2, h3⟩ := steps_flushL l hd hf
 obtain ⟨e1, e2, e3⟩ := steps_fence h2 h3
 exact ⟨by show (fenceD (flushL s l)).steps = _; rw [e1, h1], e2, e3⟩
theorem flushL_L : ∀ (l : List Sp) (s : Dv), (flushL s l).L = s.L
 | [], s => rfl
 | x :: l, s => by
   have h := flushL_L l (flushD s x.1 x.2)
   rw [(flush_L s x.1 x.2).1] at h
   exact h
end Go.Proofs.YtkkbngcgphlikaaGreatDoor
end
section
namespace Go.Proofs.YtkkbngcgphlikaaGreatDoor
theorem inter_one (s : Sp) : ∀ (l : List Sp) (n : Int), ∀ y ∈ interL s n l, 1 ≤ y.2
 | [], _, y, hy => by simp [interL] at hy
 | x :: l, n, y, hy => by
   simp only [interL] at hy
   rcases List.mem_append.1 hy with hy | hy
   ·unfold inter1 at hy
    split at hy
    ·simp at hy; subst hy; simp only []; omega
    ·simp at hy
   ·exact inter_one s l (n + x.2) y hy
end Go.Proofs.YtkkbngcgphlikaaGreatDoor
end
section
namespace Go.Proofs.YtkkbngcgphlikaaGreatDoor
theorem totS_nn : ∀ (l : List Sp), PBs l → 0 ≤ totS l
 | [], _ => by rw [totS_nil]; omega
 | x :: l, h => by
   have h1 := totS_nn l (fun y hy => h y (by simp [hy]))
   have h2 := h x (by simp)
   unfold PB at h2
   rw [totS_cons]
   omega
theorem inter_tot (s : Sp) (hs : 0 ≤ s.2) : ∀ (l : List Sp) (n : Int), PBs l → totS (interL s n l) = max 0 (min (s.1 + s.2) (n + totS l) - max s.1 n)
 | [], n, _ => by
   simp only [interL]
   rw [totS_nil]
   omega
 | x :: l, n, h => by
   have h1 := totS_nn l (fun y hy => h y (by simp [hy]))
   have h2 := h x (by simp)
   unfold PB at h2
   have h3 := inter_tot s hs l (n + x.2) (fun y hy => h y (by simp [hy]))
   simp only [interL]
   rw [totS_app, h3, totS_cons]
   have h4 : totS (inter1 n s x) = max 0 (min (s.1 + s.2) (n + x.2) - max s.1 n) := by
    unfold inter1
    split
    ·rw [totS_cons, totS_nil]
     simp only []
     omega
    ·rw [totS_nil]
     omega
   rw [h4]
   omega
theorem cut_tot {l : List Sp} {s : Sp} (h : PBs l) (h0 : 0 ≤ s.1) (h1 : 1 ≤ s.2) (h2 : s.1 + s.2 ≤ totS l) : totS (cutL l s) = s.2 := by
 unfold cutL
 rw [if_neg (by omega), if_pos h2, inter_tot s (by omega) l 0 h]
 omega
end Go.Proofs.YtkkbngcgphlikaaGreatDoor
end
section
namespace Go.Proofs.YtkkbngcgphlikaaGreatDoor
theorem flushL_c : ∀ (l : List Sp) (s : Dv), (flushL s l).c = s.c
 | [], s => rfl
 | x :: l, s => by
   have h := flushL_c l (flushD s x.1 x.2)
   rw [(flush_L s x.1 x.2).2] at h
   exact h
theorem flushL_stay {y : Int} {v : Nat} : ∀ (l : List Sp) {s : Dv}, s.f y = some v → s.c y = some v → (flushL s l).f y = some v
 | [], s, hf, _ => hf
 | x :: l, s, hf, hc => flushL_stay l (flush_stay x.1 x.2 hf hc) (by rw [(flush_L s x.1 x.2).2]; exact hc)
theorem Al.flushL {A : Nat → Nat → Prop} : ∀ (l : List Sp) {s : Dv}, Al A s → Al A (flushL s l)
 | [], s, h => h
 | x :: l, s, h => Al.flushL l (h.flush x.1 x.2)
theorem Al.fenceL {A : Nat → Nat → Prop} (l : List Sp) {s : Dv} (h : Al A s) : Al A (fenceL s l) := (Al.flushL l h).fence
end Go.Proofs.YtkkbngcgphlikaaGreatDoor
end
section
namespace Go.Proofs.YtkkbngcgphlikaaGreatDoor
open Go.Lib Go.RowKit Go.ChangeShapes Go.WideShapes Go.Deep Go.Shelf
def heapL (I : List Nat) (L : Nat) : List Nat := (I.drop 8).take 2 ++ I.drop (10 + 73 * L)
theorem heap_any (v : Value) (I : List Nat) (N L G : Nat) (w : World) (hv : KL .u64 w v I) (hl : I.length = N) (hg : gOk (N : Nat) (L : Nat) = true) (hG : gNat N L = G) (hN : N ≤ 1000) :
 Calls Tryz.prog 24 #[v, .agg #[.int .i64 (N : Nat), .int .i64 (L : Nat)]] w fun e w' => ∃ v', e = .returned v' ∧ OwnU w' w.heap.size v' (heapL I L) ∧ Below w.heap.size w w' := by
 obtain ⟨z1, z2, z3, z4, z5, z6, z7, z8⟩ := pool_size hg
 rw [hG] at z5 z6 z7 z8
 obtain ⟨T, hT⟩ : ∃ T, 10 + 73 * L = T := ⟨_, rfl⟩
 have hTb := lh (fun w1 => show Calls Tryz.prog 37 #[.agg #[.int .i64 (N : Nat), .int .i64 (L : Nat)]] w1 (fun e w' => e = .returned (.agg #[.int .i64 (T : Nat), .int .i64 (G : Nat)]) ∧ Below w1.heap.size w1 w') from by
  have h := refTable_t (N : Nat) (L : Nat) w1 hg
  rw [z5, show (10 + 73 * (L : Int)) = ((T : Nat) : Int) from by omega] at h
  exact h)
 obtain ⟨A, c, rfl, hvf⟩ := hv.form hl
 obtain ⟨g, o, rfl, hc, -⟩ := hvf w 0 (Below.refl _ _) (by omega)
 have hTN : T ≤ N := by omega
 have hTI : (T : Int) ≤ (N : Int) := by omega
 obtain ⟨i0, hi0, hz0, hz1, hz2⟩ := info_parts infoU64
 have sm : ∀ w1, (Instr.slice 25 (.slice (some ⟨g, o, none⟩) N c) (some (.int .i64 8)) (some (.int .i64 10)) none).run Tryz.prog w1 = .ok (.slice (some ⟨g, o + 8, none⟩) 2 (c - 8)) w1 := fun w1 => by
  have h := run_slice_mid (P := Tryz.prog) (ty := 25) Tryz.underlying25 hi0 hz1 (some ⟨g, o, none⟩) N c 8 10 (by omega) (by omega) w1
  rw [if_neg (by omega)] at h
  have e : Option.map (fun a : Addr => a.add (8 * 1)) (some ⟨g, o, none⟩) = some ⟨g, o + 8, none⟩ := by rw [Option.map_some, WideShapes.add_plain]
  exact h.trans (by rw [← e])
 have sf : ∀ w1, (Instr.slice 25 (.slice (some ⟨g, o, none⟩) N c) (some (.int .i64 (T : Int))) none none).run Tryz.prog w1 = .ok (.slice (some ⟨g, o + T, none⟩) (N - T) (c - T)) w1 := fun w1 => by
  have h := run_slice_from (P := Tryz.prog) (ty := 25) Tryz.underlying25 hi0 hz1 (some ⟨g, o, none⟩) N c T (by omega) w1
  rw [if_neg (by omega), Nat.mul_one] at h
  have e : Option.map (fun a : Addr => a.add T) (some ⟨g, o, none⟩) = some ⟨g, o + T, none⟩ := by rw [Option.map_some, WideShapes.add_plain]
  exact h.trans (by rw [← e])
 have k2 : KL .u64 w (.slice (some ⟨g, o + 8, none⟩) 2 (c - 8)) ((I.drop 8).take 2) := KL.partC hv hl 8 2 (c - 8) (by omega) (by omega)
 have kT : KL .u64 w (.slice (some ⟨g, o + T, none⟩) (N - T) (c - T)) (I.drop T) := by
  have h := KL.partC hv hl T (N - T) (c - T) (by omega) (by omega)
  rwa [List.take_of_length_le (by rw [List.length_drop, hl]; exact Nat.le_refl _)] at h
 have l2 : ((I.drop 8).take 2).length = 2 := by rw [List.length_take, List.length_drop]; omega
 have lT : (I.drop T).length = N - T := by rw [List.length_drop, hl]
 have hhp : heapL I L = (I.drop 8).take 2 ++ I.drop T := by unfold heapL; rw [hT]
 rw [hhp]
 replace hT := lh hT
 replace l2 := lh l2
 replace lT := lh lT
 generalize (I.drop 8).take 2 = I2 at *
 generalize I.drop T = IT at *
 clear hv hvf hg hG hhp hi0 hz0 hz1 hz2 z5 hl
 have hb0 := bZ w (.cells #[.int .i64 (N : Nat), .int .i64 (L : Nat)] (37 : Nat))
 have gG := HB.new w #[.int .i64 (N : Nat), .int .i64 (L : Nat)] (37 : Nat)
 obtain ⟨wb1, hwb1⟩ : ∃ x, w.alloc (.cells #[.int .i64 (N : Nat), .int .i64 (L : Nat)] (37 : Nat)) = x := ⟨_, rfl⟩
 rw [hwb1] at hb0 gG
 obtain ⟨q0, q1⟩ := gG.c2
 go_enter Tryz.func24, Tryz.ntmps24
 subst hwb1
 go_wp2_with fail
 refine (hTb.out _).mono ?_
 rintro e w1 ⟨rfl, hb1⟩
 have hB1 := hb0.trans (hb1.mono hb0.size)
 have e2 := bZ w1 (.cells #[.int .i64 (T : Nat), .int .i64 (G : Nat)] (70 : Nat))
 have gS := HB.new w1 #[.int .i64 (T : Nat), .int .i64 (G : Nat)] (70 : Nat)
 obtain ⟨w2, hw2⟩ : ∃ x, w1.alloc (.cells #[.int .i64 (T : Nat), .int .i64 (G : Nat)] (70 : Nat)) = x := ⟨_, rfl⟩
 obtain ⟨C, hC⟩ : ∃ C, w1.heap.size = C := ⟨_, rfl⟩
 rw [hw2] at e2 gS
 rw [hC] at gS
 have hB2 := hB1.trans (e2.mono hB1.size)
 have k22 := k2.keep hB2
 have kT2 := kT.keep hB2
 have hCF := lh (fun w' (hb : Below w2.heap.size w2 w') => show w'.cell? ⟨C, 0, none⟩ = some (.int .i64 (T : Nat)) from (gS.keep hb).c2.1)
 clear hTb hb0 hb1 gG q0 q1 hB1 e2 k2 kT gS
 go_wp2_with fail
 try rw [hw2]
 refine wp_region_held_drew (S := (fun w' => Below w2.heap.size w2 w')) (by kernel_rfl) (Below.refl _ _).drew (fun hHeld => ?_)
 refine takeH 1 ?_
 refine takeH 2 ?_
 refine takeH 4 ?_
 refine takeH 5 ?_
 refine takeH 6 ?_
 refine takeH 7 ?_
 refine oneL 0 rfl (by kernel_rfl) (fun K hK => ?_)
 go_simp
 have hb := bZ w2.drew (.cells #[] (40 : Nat))
 refine hK.out _ _ (hHeld.trans (hb.mono hHeld.size)) (fun hHeld2 => ?_)
 clear hK K
 try simp only [Act.put,sA,sB,sC]
 refine oneL 3 rfl (by kernel_rfl) (fun K hK => ?_)
 obtain ⟨v5, w5, hrun, ho5, hb5⟩ := newW (w := w2.drew) (k22.keep (Below.refl _ _).drew) (by rw [l2.out]; decide)
 rw [if_pos (by rfl)]
 refine wp_append_run _ _ _ _ rfl _ _ _ rfl rfl hrun ?_
 have hH5 := (Below.refl _ _).drew.trans hb5
 refine hK.out _ _ hH5 (fun hHeld3 => ?_)
 clear hK K hHeld hHeld2
 try simp only [Act.put,sA,sB,sC]
 refine oneL 8 rfl (by kernel_rfl) (fun K hK => ?_)
 obtain ⟨v6, w6, hrun6, ho6, hb6⟩ := appW ho5 (kT2.keep hH5) (by have := hH5.size; exact this) (by rw [l2.out]; decide) (by rw [lT.out]; omega)
 rw [if_pos (by rfl)]
 refine wp_append_run _ _ _ _ rfl _ _ _ rfl rfl hrun6 ?_
 have hH6 : Below w2.heap.size w2 w6 := hH5.trans hb6
 refine hK.out _ _ hH6 (fun hHeld4 => ?_)
 clear hK K hHeld3
 try simp only [Act.put,sA,sB,sC]
 refine takeH 9 ?_
 refine wpAnyH_done (by kernel_rfl) ?_ _
 have hBz := hB2.trans (hH6.mono hB2.size)
 have ho7 := OwnU.mono ho6 hB2.size
 go_wp2_with fail
 go_ret
 exact ⟨_, rfl, ho7, hBz⟩
end Go.Proofs.YtkkbngcgphlikaaGreatDoor
end
