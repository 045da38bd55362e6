/-
  Layer 3 (pmem): the document's Crash.
-/
import Derived.Test.YtcemiclbeocnjaaPm17
set_option linter.unusedVariables false
set_option linter.unusedSimpArgs false
namespace Go.Proofs.Ytcemiclbeocnjaa
open Go.RowKit Go.ChangeShapes Go.WideShapes Go.Deep Go.Maps

theorem keysL_pre {k N : Nat} (g : Gu) (h : k ≤ N) : keysL k g <+: keysL N g := by
  induction N with
  | zero => rw [show k = 0 by omega]; exact List.prefix_rfl
  | succ N ih =>
    by_cases e : k = N + 1
    · rw [e]; exact List.prefix_rfl
    · rw [keysL_succ]
      exact (ih (by omega)).trans (List.prefix_append _ _)
theorem keysL_at {k N a : Nat} {g : Gu} (h : k < N) (hg : g (k : Int) = some a) : (keysL N g).getD (keysL k g).length 0 = (k : Int) := by
  have h1 : keysL (k + 1) g <+: keysL N g := keysL_pre g h
  rw [keysL_succ, hg] at h1
  simp only [Option.isSome_some, if_true] at h1
  obtain ⟨t, ht⟩ := h1
  rw [← ht, List.append_assoc, List.getD_eq_getElem?_getD, List.getElem?_append_right (Nat.le_refl _), Nat.sub_self]
  rfl
/-- the dirty words below k have crashed -/
def ck (s : Dv) (keep : List Nat) (N k : Nat) : Dv := { s with L := crL s keep (keysL N s.c) (keysL k s.c).length, c := fun x => if x < k then none else s.c x, f := fun x => if x < k then none else s.f x }
theorem below_fun {k : Nat} {f : Gu} (h : f (k : Int) = none) : (fun x : Int => if x < ((k + 1 : Nat) : Int) then none else f x) = fun x : Int => if x < (k : Int) then none else f x := by
  funext x
  by_cases e : x = (k : Int)
  · subst e; rw [if_pos (by omega), if_neg (by omega), h]
  · by_cases e2 : x < (k : Int)
    · rw [if_pos (by omega), if_pos e2]
    · rw [if_neg (by omega), if_neg e2]
theorem ck_none {s : Dv} {keep : List Nat} {N k : Nat} (h : s.c (k : Int) = none) (h2 : s.f (k : Int) = none) : ck s keep N (k + 1) = ck s keep N k := by
  unfold ck
  rw [keysL_succ, h]
  simp only [Option.isSome_none, Bool.false_eq_true, if_false, List.append_nil, below_fun h, below_fun h2]
theorem ck_L {s : Dv} {keep : List Nat} {N k a : Nat} (hk : k < N) (h : s.c (k : Int) = some a) : (ck s keep N (k + 1)).L =
    if keep.getD (keysL k s.c).length 0 % 3 = 1 then (match s.f (k : Int) with | some v => (ck s keep N k).L.set k v | none => (ck s keep N k).L) else if keep.getD (keysL k s.c).length 0 % 3 = 2 then (ck s keep N k).L.set k a else (ck s keep N k).L := by
  unfold ck
  simp only []
  rw [keysL_succ, h]
  simp only [Option.isSome_some, if_true, List.length_append, List.length_singleton]
  rw [crL_succ]
  unfold crStep
  rw [keysL_at hk h, h]
  simp only [Option.getD_some, Int.toNat_natCast]
  cases s.f (k : Int) <;> rfl
/-- a word crashes: its lasting value is what is kept -/
theorem ck_some {s : Dv} {keep : List Nat} {N k a l : Nat} (hN : s.L.length = N) (hk : k < N) (h : s.c (k : Int) = some a)
    (hl : l = if keep.getD (keysL k s.c).length 0 % 3 = 1 then (match s.f (k : Int) with | some v => v | none => (ck s keep N k).L.getD k 0) else if keep.getD (keysL k s.c).length 0 % 3 = 2 then a else (ck s keep N k).L.getD k 0) :
    WAt (ck s keep N (k + 1)) k (l, 0, 0, false, false) ∧ (ck s keep N (k + 1)).L.length = (ck s keep N k).L.length ∧ ∀ j : Nat, j ≠ k → (ck s keep N (k + 1)).L.getD j 0 = (ck s keep N k).L.getD j 0 ∧ (ck s keep N (k + 1)).c (j : Int) = (ck s keep N k).c (j : Int) ∧ (ck s keep N (k + 1)).f (j : Int) = (ck s keep N k).f (j : Int) := by
  have hL := ck_L (keep := keep) hk h
  have hlen : k < (ck s keep N k).L.length := by unfold ck; simp only []; rw [crL_len, hN]; exact hk
  have hself : ∀ v : Nat, ((ck s keep N k).L.set k v).getD k 0 = v := fun v => by rw [List.getD_eq_getElem?_getD, List.getElem?_set, if_pos rfl, if_pos hlen]; rfl
  have hset : ∀ (v : Nat) (j : Nat), j ≠ k → ((ck s keep N k).L.set k v).getD j 0 = (ck s keep N k).L.getD j 0 := fun v j hj => getD_set_other hj
  have hcf : ∀ j : Nat, j ≠ k → (ck s keep N (k + 1)).c (j : Int) = (ck s keep N k).c (j : Int) ∧ (ck s keep N (k + 1)).f (j : Int) = (ck s keep N k).f (j : Int) := fun j hj => by
    unfold ck
    simp only []
    by_cases e : j < k
    · rw [if_pos (by omega), if_pos (by omega), if_pos (by omega), if_pos (by omega)]; exact ⟨rfl, rfl⟩
    · rw [if_neg (by omega), if_neg (by omega), if_neg (by omega), if_neg (by omega)]; exact ⟨rfl, rfl⟩
  have hc0 : (ck s keep N (k + 1)).c (k : Int) = none ∧ (ck s keep N (k + 1)).f (k : Int) = none := by
    unfold ck
    simp only []
    rw [if_pos (by omega), if_pos (by omega)]; exact ⟨rfl, rfl⟩
  refine ⟨⟨?_, by rw [hc0.1]; rfl, fun z hz => (by rw [hc0.1] at hz; cases hz), by rw [hc0.2]; rfl, fun z hz => (by rw [hc0.2] at hz; cases hz)⟩, ?_, fun j hj => ⟨?_, hcf j hj⟩⟩
  · rw [hL, hl]
    simp only []
    split
    · split
      · exact (hself _).symm
      · rfl
    · split
      · exact (hself _).symm
      · rfl
  · unfold ck
    simp only []
    rw [crL_len, crL_len]
  · rw [hL]
    split
    · split
      · exact hset _ j hj
      · rfl
    · split
      · exact hset _ j hj
      · rfl
theorem ck_end {s : Dv} {keep : List Nat} {N : Nat} (hN : s.L.length = N) (hc : ∀ x a, s.c x = some a → 0 ≤ x ∧ x < N) (hf : ∀ x a, s.f x = some a → ∃ b, s.c x = some b) : crashD s keep = { ck s keep N N with dead := false, fuse := 0 } := by
  have h1 : (fun x : Int => if x < (N : Int) then none else s.c x) = fun _ => none := by
    funext x
    split
    · rfl
    · cases hq : s.c x with
      | none => rfl
      | some a => have := hc x a hq; omega
  have h2 : (fun x : Int => if x < (N : Int) then none else s.f x) = fun _ => none := by
    funext x
    split
    · rfl
    · cases hq : s.f x with
      | none => rfl
      | some a =>
        obtain ⟨b, hb⟩ := hf x a hq
        have := hc x b hb; omega
  unfold crashD ck
  rw [hN]
  simp only [h1, h2]
theorem RvL.keep {w0 wr w' : World} {B : Nat} {v0 : Value} {F : Nat → Prop} {N : Nat} {s1 s2 : Dv} (h : RvL w0 wr B v0 F N s1 s2) (hb : Below wr.heap.size wr w') : RvL w0 w' B v0 F N s1 s2 := by
  obtain ⟨W, hM, hl, hW, hc⟩ := h
  exact ⟨W, hM.keep hb, hl, hW, hc.trans (Chg.of_below F hb) (fun j q => .inl q)⟩

theorem RvL.set5z {w0 wr : World} {B g cap N i : Nat} {F : Nat → Prop} {s1 s2 s3 : Dv} (h : RvL w0 wr B (.slice (some ⟨g, 0, none⟩) N cap) F N s1 s2) (hi : i < N) (x0 : Nat) (hx : WAt s3 i (x0, 0, 0, false, false)) (hl : s3.L.length = s2.L.length)
    (hs : ∀ j, j ≠ i → j < N → s3.L.getD j 0 = s2.L.getD j 0 ∧ s3.c (j : Int) = s2.c (j : Int) ∧ s3.f (j : Int) = s2.f (j : Int)) :
    RvL w0 (((((wr.setCell ⟨g, i * 5, none⟩ (.int .u64 (x0 : Nat))).setCell ⟨g, i * 5 + 1, none⟩ (.int .u64 0)).setCell ⟨g, i * 5 + 2, none⟩ (.int .u64 0)).setCell ⟨g, i * 5 + 3, none⟩ (.bool false)).setCell ⟨g, i * 5 + 4, none⟩ (.bool false)) B (.slice (some ⟨g, 0, none⟩) N cap) F N s1 s3 := h.set5 hi x0 0 0 false false hx hl hs
theorem RvX.to {w0 wr w' : World} {B : Nat} {v0 : Value} {F : Nat → Prop} {N : Nat} {s1 s2 : Dv} {i : Nat} {y : Wd} (h : RvX w0 wr B v0 F N s1 s2 i y) (hb : Below wr.heap.size wr w') : RvX w0 w' B v0 F N s1 s2 i y := by
  obtain ⟨W, hM, hl, hW, hy, hc⟩ := h
  exact ⟨W, hM.keep hb, hl, hW, hy, hc.trans (Chg.of_below F hb) (fun j q => .inl q)⟩
theorem RvL.finish {w0 wr : World} {B : Nat} {v0 : Value} {F : Nat → Prop} {N : Nat} {s1 s2 : Dv} (h : RvL w0 wr B v0 F N s1 s2) (hs : s2.steps = s1.steps) :
    wr.cell? ⟨B, 2, none⟩ = some (.bool s1.dead) ∧ wr.cell? ⟨B, 1, none⟩ = some (.int .i64 s1.fuse) ∧ wr.frozen? ⟨B, 2, none⟩ = false ∧ wr.frozen? ⟨B, 1, none⟩ = false ∧
    Hid (RvAt ((wr.setCell ⟨B, 2, none⟩ (.bool false)).setCell ⟨B, 1, none⟩ (.int .i64 0)) B F { s2 with dead := false, fuse := 0 } ∧ Chg F w0 ((wr.setCell ⟨B, 2, none⟩ (.bool false)).setCell ⟨B, 1, none⟩ (.int .i64 0))) := by
  obtain ⟨W, hM, hl, hW, hc⟩ := h
  have h2 := (hM.put (o := 2) (u := .bool false) (s' := { s1 with dead := false }) rfl).put (o := 1) (u := .int .i64 0) (s' := { s1 with dead := false, fuse := 0 }) rfl
  refine ⟨hM.cells.1.2.2.1, hM.cells.1.2.1, hM.cells.2 2, hM.cells.2 1, ⟨v0, W, ⟨by rw [h2.blk]; simp only [hs], h2.row, h2.fB, h2.f0, h2.lt⟩, hW.same rfl (fun j _ => ⟨rfl, rfl, rfl⟩)⟩, ?_⟩
  exact (hc.trans (Chg.setCell wr B 2 (.bool false) hM.fB) (fun j q => .inl q)).trans (Chg.setCell _ B 1 (.int .i64 0) hM.fB) (fun j q => .inl q)

set_option maxRecDepth 10000 in
set_option maxHeartbeats 4000000 in
theorem rCrash (B : Nat) (F : Nat → Prop) (s : Dv) (vk : Value) (keep : List Nat) (w : World) (h : RvAt w B F s) (hg : GoodD s) (hbl : BL keep) (hkl : keep.length ≤ 1000) (hK : ∀ w', Chg F w w' → KL .u8 w' vk keep) :
    Calls Try.prog 58 #[.pointer (some ⟨B, 0, none⟩), vk] w fun e w' => e = .returned (.tuple #[]) ∧ RvAt w' B F (crashD s keep) ∧ Chg F w w' := by
  have hl0 := hg.len0
  have hlen := hg.len
  have hfin := Lib.hid hg.fin
  obtain ⟨N, hN⟩ : ∃ N, s.L.length = N := ⟨_, rfl⟩
  rw [hN] at hl0 hlen
  rw [ck_end hN (fun x a q => by have := hg.cin x a q; omega) hg.fin]
  obtain ⟨Ak, capk, rfl, _⟩ := (hK w (Chg.refl _ _)).form rfl
  obtain ⟨nk, hnk⟩ : ∃ nk, keep.length = nk := ⟨_, rfl⟩
  rw [hnk] at hkl ⊢
  replace hnk := Lib.hid hnk
  replace hK := Lib.hid hK
  replace hbl := Lib.hid hbl
  obtain ⟨g, cap, hgF, hL⟩ := RvL.of (N := N) h hN (by omega) (Chg.refl F w)
  have hL0 := Lib.hid (hL.same (s3 := ck s keep N 0) (by unfold ck; simp only []; rw [crL_len]) (fun j _ => ⟨by rfl, by simp only [ck]; rw [if_neg (by omega)], by simp only [ck]; rw [if_neg (by omega)]⟩))
  have hkk := Lib.hid (fun k => keysL_len k s.c)
  replace hN := Lib.hid hN
  clear h hL hg
  go_enter Try.func58, Try.ntmps58
  go_wp2_with fail
  go_loopw [4, 5] (fun d i wr => ∃ k : Nat, k ≤ N ∧ d = .int .i64 ((keysL k s.c).length : Nat) ∧ i = .int .i64 k ∧ Hid (RvL w wr B (.slice (some ⟨g, 0, none⟩) N cap) F N s (ck s keep N k))) (fun _ i _ => N + 1 - (intOf i).toNat)
  case atStart => exact ⟨0, Nat.zero_le _, rfl, rfl, hL0⟩
  case round =>
    clear hL0
    obtain ⟨k, hk, rfl, rfl, hLh⟩ := hrel
    by_cases hlt : k < N
    · obtain ⟨y, hat, hX⟩ := hLh.out.x hlt
      obtain ⟨⟨d0, d1, d2, d3, d4⟩, fg, ⟨c0, _⟩, hBl, hgl, _⟩ := hX.word hlt
      have hlt' : (k : Int) < (N : Int) := by omega
      obtain ⟨y0, y1, y2, y3, y4⟩ := y
      obtain ⟨r1, r2, r3, r4, r5⟩ := hat
      have hcc : (ck s keep N k).c (k : Int) = s.c (k : Int) := by unfold ck; simp only []; rw [if_neg (by omega)]
      have hff : (ck s keep N k).f (k : Int) = s.f (k : Int) := by unfold ck; simp only []; rw [if_neg (by omega)]
      simp only [hcc, hff] at d0 d1 d2 d3 d4 r1 r2 r3 r4 r5
      cases hcx : s.c (k : Int) with
      | none =>
        have hfx : s.f (k : Int) = none := by
          cases hq : s.f (k : Int) with
          | none => rfl
          | some b => obtain ⟨a, ha⟩ := hfin.out _ _ hq; rw [hcx] at ha; cases ha
        rw [hcx] at r2
        simp only [Option.isSome_none] at r2
        subst r2
        have hfl := Lib.hid (ck_none (keep := keep) (N := N) hcx hfx)
        have hkL := Lib.hid (show (keysL (k + 1) s.c).length = (keysL k s.c).length from by rw [keysL_succ, hcx]; simp)
        have hd9 : (keysL k s.c).length ≤ 1000 := by have := hkk.out k; omega
        generalize hdd : (keysL k s.c).length = dd at *
        clear r1 r3 r4 r5 hcx hfx hcc hff hX
        go_wp2_with fail
        refine ⟨⟨k + 1, by omega, by rw [hkL.out], by go_num, ?_⟩, by simp [intOf]; omega⟩
        rw [hfl.out]
        exact Lib.hid (hLh.out.keep ((Below.refl _ _).alloc (Nat.le_refl _) _))
      | some a =>
        rw [hcx] at r2
        simp only [Option.isSome_some] at r2
        subst r2
        have r6 := r3 a hcx
        subst r6
        have hws := fun l hl => ck_some (keep := keep) (l := l) hN.out hlt hcx hl
        have hkL := Lib.hid (show (keysL (k + 1) s.c).length = (keysL k s.c).length + 1 from by rw [keysL_succ, hcx]; simp)
        have hd9 : (keysL k s.c).length ≤ 1000 := by have := hkk.out k; omega
        have hKr := hK.out wr (by obtain ⟨W, _, _, _, hc⟩ := hLh.out; exact hc)
        rw [← r1] at hws
        generalize hdd : (keysL k s.c).length = dd at *
        replace hdd := Lib.hid hdd
        by_cases hkd : dd < nk
        · obtain ⟨Ak2, capk2, he2, hCk⟩ := hKr.form hnk.out
          have hkd2 : (dd : Int) < (nk : Int) := by omega
          have hbb := hbl.out.at dd (by rw [hnk.out]; exact hkd)
          obtain ⟨gk, ok, hAk, hcapk, hgk, _⟩ := hCk wr dd (Below.refl _ _) hkd
          rw [hnk.out] at he2
          cases he2
          subst hAk
          have hkc := Lib.hid (fun w' (hb : Below wr.heap.size wr w') => (hCk w' dd hb hkd).elim fun g h => h.elim fun o h => show w'.cell? ⟨gk, ok + dd, none⟩ = some (.int .u8 (keep.getD dd 0 : Nat)) from by
            obtain ⟨h1, _, _, h4⟩ := h
            cases h1
            exact h4)
          have hgk2 : gk < wr.heap.size := hgk
          generalize keep.getD dd 0 = b at *
          have hwb : ((b : Nat) : Int) < 256 := by omega
          replace hK := Lib.hid hK.out
          clear hCk hKr r3 hcc hff hcx
          have hr3 : b % 3 = 0 ∨ b % 3 = 1 ∨ b % 3 = 2 := by omega
          have kc := hkc.out _ ((Below.refl wr.heap.size wr).alloc (Nat.le_refl _) (.cells #[.int .u64 (y0 : Nat), .int .u64 (y1 : Nat), .int .u64 (y2 : Nat), .bool true, .bool y4] (96 : Nat)))
          clear hkc
          rcases hr3 with hr | hr | hr
          · have hm3 : ((b : Nat) : Int) % 3 = 0 := by omega
            have hm4 : Int.tmod ((b : Nat) : Int) 3 = 0 := by rw [Int.tmod_eq_emod_of_nonneg (by omega)]; exact hm3
            obtain ⟨hw1, hw2, hw3⟩ := hws y0 (by rw [if_neg (by omega), if_neg (by omega)])
            clear hws r1 r4 r5 hr
            have hbX : Below wr.heap.size wr (wr.alloc (.cells #[.int .u64 (y0 : Nat), .int .u64 (y1 : Nat), .int .u64 (y2 : Nat), .bool true, .bool y4] (96 : Nat))) := ((Below.refl wr.heap.size wr).alloc (Nat.le_refl _) _)
            obtain ⟨⟨p0, p1, p2, p3, p4⟩, fp, ⟨pc0, _⟩, _⟩ := (hX.to hbX).word hlt
            obtain ⟨⟨q0, q1, q2, q3, q4⟩, fq, ⟨qc0, _⟩, _⟩ := (hX.to hbX).drew.word hlt
            simp only [] at p0 p1 p2 p3 p4 q0 q1 q2 q3 q4
            have hL5 := Lib.hid ((hX.l.set5z (s3 := ck s keep N (k + 1)) hlt y0 hw1 hw2 (fun j hj _ => hw3 j hj)).keep ((Below.refl _ _).alloc (Nat.le_refl _) (.cells #[.int .u64 (y0 : Nat), .int .u64 (y1 : Nat), .int .u64 (y2 : Nat), .bool true, .bool y4] (96 : Nat)))).drew
            have u0 := fp (k * 5)
            have u1 := fp (k * 5 + 1)
            have u2 := fp (k * 5 + 2)
            have u3 := fp (k * 5 + 3)
            have u4 := fp (k * 5 + 4)
            have v0 := fq (k * 5)
            have v1 := fq (k * 5 + 1)
            have v2 := fq (k * 5 + 2)
            have v3 := fq (k * 5 + 3)
            have v4 := fq (k * 5 + 4)
            have t0 := fg (k * 5)
            have t1 := fg (k * 5 + 1)
            have t2 := fg (k * 5 + 2)
            have t3 := fg (k * 5 + 3)
            have t4 := fg (k * 5 + 4)
            clear fp fq fg hX hw1 hw2 hw3 hbX
            go_wp2_with fail
            refine wp_region_tail (S := (fun w' => w' = (wr.alloc (.cells #[.int .u64 (y0 : Nat), .int .u64 (y1 : Nat), .int .u64 (y2 : Nat), .bool true, .bool y4] (96 : Nat))).drew)) (n := 9) (by kernel_rfl) ?_ (fun hHeld hInv => ?_) (by decide)
            · (try dsimp only)
              all_goals rfl
            refine takeS 0 (v := ?_) (tailAt (by kernel_rfl)) hInv (by decide) rfl (by kernel_rfl) (by kernel_rfl) (by kernel_rfl) (fun _ _ _ h => h) (by rfl) (by assumption) ?_ (fun hInv2 => ?_)
            rotate_left
            · (intro w hSw; (try dsimp only at hSw); (subst hSw); go_simp <;> with_reducible rfl)
            clear hInv
            have hInv := hInv2
            clear hInv2
            try simp only [Act.put, List.setIfInBounds_toArray, List.set_cons_zero, List.set_cons_succ] at hInv ⊢
            refine takeS 1 (v := ?_) (tailAt (by kernel_rfl)) hInv (by decide) rfl (by kernel_rfl) (by kernel_rfl) (by kernel_rfl) (fun _ _ _ h => h) (by rfl) (by assumption) ?_ (fun hInv2 => ?_)
            rotate_left
            · (intro w hSw; (try dsimp only at hSw); (subst hSw); go_simp <;> with_reducible rfl)
            clear hInv
            have hInv := hInv2
            clear hInv2
            try simp only [Act.put, List.setIfInBounds_toArray, List.set_cons_zero, List.set_cons_succ] at hInv ⊢
            refine takeS 2 (v := ?_) (tailAt (by kernel_rfl)) hInv (by decide) rfl (by kernel_rfl) (by kernel_rfl) (by kernel_rfl) (fun _ _ _ h => h) (by rfl) (by assumption) ?_ (fun hInv2 => ?_)
            rotate_left
            · (intro w hSw; (try dsimp only at hSw); (subst hSw); go_simp <;> with_reducible rfl)
            clear hInv
            have hInv := hInv2
            clear hInv2
            try simp only [Act.put, List.setIfInBounds_toArray, List.set_cons_zero, List.set_cons_succ] at hInv ⊢
            refine takeS 3 (v := ?_) (tailAt (by kernel_rfl)) hInv (by decide) rfl (by kernel_rfl) (by kernel_rfl) (by kernel_rfl) (fun _ _ _ h => h) (by rfl) (by assumption) ?_ (fun hInv2 => ?_)
            rotate_left
            · (intro w hSw; (try dsimp only at hSw); (subst hSw); go_simp <;> with_reducible rfl)
            clear hInv
            have hInv := hInv2
            clear hInv2
            try simp only [Act.put, List.setIfInBounds_toArray, List.set_cons_zero, List.set_cons_succ] at hInv ⊢
            refine takeS 4 (v := ?_) (tailAt (by kernel_rfl)) hInv (by decide) rfl (by kernel_rfl) (by kernel_rfl) (by kernel_rfl) (fun _ _ _ h => h) (by rfl) (by assumption) ?_ (fun hInv2 => ?_)
            rotate_left
            · (intro w hSw; (try dsimp only at hSw); (subst hSw); go_simp <;> with_reducible rfl)
            clear hInv
            have hInv := hInv2
            clear hInv2
            try simp only [Act.put, List.setIfInBounds_toArray, List.set_cons_zero, List.set_cons_succ] at hInv ⊢
            refine takeS 5 (v := ?_) (tailAt (by kernel_rfl)) hInv (by decide) rfl (by kernel_rfl) (by kernel_rfl) (by kernel_rfl) (fun _ _ _ h => h) (by rfl) (by assumption) ?_ (fun hInv2 => ?_)
            rotate_left
            · (intro w hSw; (try dsimp only at hSw); (subst hSw); go_simp <;> with_reducible rfl)
            clear hInv
            have hInv := hInv2
            clear hInv2
            try simp only [Act.put, List.setIfInBounds_toArray, List.set_cons_zero, List.set_cons_succ] at hInv ⊢
            refine takeS 6 (v := ?_) (tailAt (by kernel_rfl)) hInv (by decide) rfl (by kernel_rfl) (by kernel_rfl) (by kernel_rfl) (fun _ _ _ h => h) (by rfl) (by assumption) ?_ (fun hInv2 => ?_)
            rotate_left
            · (intro w hSw; (try dsimp only at hSw); (subst hSw); go_simp <;> with_reducible rfl)
            clear hInv
            have hInv := hInv2
            clear hInv2
            try simp only [Act.put, List.setIfInBounds_toArray, List.set_cons_zero, List.set_cons_succ] at hInv ⊢
            refine takeS 7 (v := ?_) (tailAt (by kernel_rfl)) hInv (by decide) rfl (by kernel_rfl) (by kernel_rfl) (by kernel_rfl) (fun _ _ _ h => h) (by rfl) (by assumption) ?_ (fun hInv2 => ?_)
            rotate_left
            · (intro w hSw; (try dsimp only at hSw); (subst hSw); go_simp <;> with_reducible rfl)
            clear hInv
            have hInv := hInv2
            clear hInv2
            try simp only [Act.put, List.setIfInBounds_toArray, List.set_cons_zero, List.set_cons_succ] at hInv ⊢
            refine takeS 8 (v := ?_) (tailAt (by kernel_rfl)) hInv (by decide) rfl (by kernel_rfl) (by kernel_rfl) (by kernel_rfl) (fun _ _ _ h => h) (by rfl) (by assumption) ?_ (fun hInv2 => ?_)
            rotate_left
            · (intro w hSw; (try dsimp only at hSw); (subst hSw); go_simp <;> with_reducible rfl)
            clear hInv
            have hInv := hInv2
            clear hInv2
            try simp only [Act.put, List.setIfInBounds_toArray, List.set_cons_zero, List.set_cons_succ] at hInv ⊢
            refine lastS 9 rfl (by decide) (by kernel_rfl) (fun K hK => ?_)
            go_simp
            refine hK.out _ _ ?_
            clear hK K
            refine wpAnyS_done (by kernel_rfl) ?_ _
            go_wp2_with fail
            go_roundw
            case rel => exact ⟨k + 1, by omega, by rw [hkL.out]; go_num, by go_num, hL5⟩
            case measure => simp [intOf]; omega
          · have hm3 : ((b : Nat) : Int) % 3 = 1 := by omega
            have hm4 : Int.tmod ((b : Nat) : Int) 3 = 1 := by rw [Int.tmod_eq_emod_of_nonneg (by omega)]; exact hm3
            cases hfx : s.f (k : Int) with
            | none =>
              rw [hfx] at r4
              simp only [Option.isSome_none] at r4
              subst r4
              obtain ⟨hw1, hw2, hw3⟩ := hws y0 (by rw [if_pos hr, hfx])
              clear hws r1 r5 hr hfx
              have hbX : Below wr.heap.size wr (wr.alloc (.cells #[.int .u64 (y0 : Nat), .int .u64 (y1 : Nat), .int .u64 (y2 : Nat), .bool true, .bool false] (96 : Nat))) := ((Below.refl wr.heap.size wr).alloc (Nat.le_refl _) _)
              obtain ⟨⟨p0, p1, p2, p3, p4⟩, fp, ⟨pc0, _⟩, _⟩ := (hX.to hbX).word hlt
              obtain ⟨⟨q0, q1, q2, q3, q4⟩, fq, ⟨qc0, _⟩, _⟩ := (hX.to hbX).drew.word hlt
              simp only [] at p0 p1 p2 p3 p4 q0 q1 q2 q3 q4
              have hL5 := Lib.hid ((hX.l.set5z (s3 := ck s keep N (k + 1)) hlt y0 hw1 hw2 (fun j hj _ => hw3 j hj)).keep ((Below.refl _ _).alloc (Nat.le_refl _) (.cells #[.int .u64 (y0 : Nat), .int .u64 (y1 : Nat), .int .u64 (y2 : Nat), .bool true, .bool false] (96 : Nat)))).drew
              have u0 := fp (k * 5)
              have u1 := fp (k * 5 + 1)
              have u2 := fp (k * 5 + 2)
              have u3 := fp (k * 5 + 3)
              have u4 := fp (k * 5 + 4)
              have v0 := fq (k * 5)
              have v1 := fq (k * 5 + 1)
              have v2 := fq (k * 5 + 2)
              have v3 := fq (k * 5 + 3)
              have v4 := fq (k * 5 + 4)
              have t0 := fg (k * 5)
              have t1 := fg (k * 5 + 1)
              have t2 := fg (k * 5 + 2)
              have t3 := fg (k * 5 + 3)
              have t4 := fg (k * 5 + 4)
              clear fp fq fg hX hw1 hw2 hw3 hbX
              go_wp2_with fail
              refine wp_region_tail (S := (fun w' => w' = (wr.alloc (.cells #[.int .u64 (y0 : Nat), .int .u64 (y1 : Nat), .int .u64 (y2 : Nat), .bool true, .bool false] (96 : Nat))).drew)) (n := 9) (by kernel_rfl) ?_ (fun hHeld hInv => ?_) (by decide)
              · (try dsimp only)
                all_goals rfl
              refine takeS 0 (v := ?_) (tailAt (by kernel_rfl)) hInv (by decide) rfl (by kernel_rfl) (by kernel_rfl) (by kernel_rfl) (fun _ _ _ h => h) (by rfl) (by assumption) ?_ (fun hInv2 => ?_)
              rotate_left
              · (intro w hSw; (try dsimp only at hSw); (subst hSw); go_simp <;> with_reducible rfl)
              clear hInv
              have hInv := hInv2
              clear hInv2
              try simp only [Act.put, List.setIfInBounds_toArray, List.set_cons_zero, List.set_cons_succ] at hInv ⊢
              refine takeS 1 (v := ?_) (tailAt (by kernel_rfl)) hInv (by decide) rfl (by kernel_rfl) (by kernel_rfl) (by kernel_rfl) (fun _ _ _ h => h) (by rfl) (by assumption) ?_ (fun hInv2 => ?_)
              rotate_left
              · (intro w hSw; (try dsimp only at hSw); (subst hSw); go_simp <;> with_reducible rfl)
              clear hInv
              have hInv := hInv2
              clear hInv2
              try simp only [Act.put, List.setIfInBounds_toArray, List.set_cons_zero, List.set_cons_succ] at hInv ⊢
              refine takeS 2 (v := ?_) (tailAt (by kernel_rfl)) hInv (by decide) rfl (by kernel_rfl) (by kernel_rfl) (by kernel_rfl) (fun _ _ _ h => h) (by rfl) (by assumption) ?_ (fun hInv2 => ?_)
              rotate_left
              · (intro w hSw; (try dsimp only at hSw); (subst hSw); go_simp <;> with_reducible rfl)
              clear hInv
              have hInv := hInv2
              clear hInv2
              try simp only [Act.put, List.setIfInBounds_toArray, List.set_cons_zero, List.set_cons_succ] at hInv ⊢
              refine takeS 3 (v := ?_) (tailAt (by kernel_rfl)) hInv (by decide) rfl (by kernel_rfl) (by kernel_rfl) (by kernel_rfl) (fun _ _ _ h => h) (by rfl) (by assumption) ?_ (fun hInv2 => ?_)
              rotate_left
              · (intro w hSw; (try dsimp only at hSw); (subst hSw); go_simp <;> with_reducible rfl)
              clear hInv
              have hInv := hInv2
              clear hInv2
              try simp only [Act.put, List.setIfInBounds_toArray, List.set_cons_zero, List.set_cons_succ] at hInv ⊢
              refine takeS 4 (v := ?_) (tailAt (by kernel_rfl)) hInv (by decide) rfl (by kernel_rfl) (by kernel_rfl) (by kernel_rfl) (fun _ _ _ h => h) (by rfl) (by assumption) ?_ (fun hInv2 => ?_)
              rotate_left
              · (intro w hSw; (try dsimp only at hSw); (subst hSw); go_simp <;> with_reducible rfl)
              clear hInv
              have hInv := hInv2
              clear hInv2
              try simp only [Act.put, List.setIfInBounds_toArray, List.set_cons_zero, List.set_cons_succ] at hInv ⊢
              refine takeS 5 (v := ?_) (tailAt (by kernel_rfl)) hInv (by decide) rfl (by kernel_rfl) (by kernel_rfl) (by kernel_rfl) (fun _ _ _ h => h) (by rfl) (by assumption) ?_ (fun hInv2 => ?_)
              rotate_left
              · (intro w hSw; (try dsimp only at hSw); (subst hSw); go_simp <;> with_reducible rfl)
              clear hInv
              have hInv := hInv2
              clear hInv2
              try simp only [Act.put, List.setIfInBounds_toArray, List.set_cons_zero, List.set_cons_succ] at hInv ⊢
              refine takeS 6 (v := ?_) (tailAt (by kernel_rfl)) hInv (by decide) rfl (by kernel_rfl) (by kernel_rfl) (by kernel_rfl) (fun _ _ _ h => h) (by rfl) (by assumption) ?_ (fun hInv2 => ?_)
              rotate_left
              · (intro w hSw; (try dsimp only at hSw); (subst hSw); go_simp <;> with_reducible rfl)
              clear hInv
              have hInv := hInv2
              clear hInv2
              try simp only [Act.put, List.setIfInBounds_toArray, List.set_cons_zero, List.set_cons_succ] at hInv ⊢
              refine takeS 7 (v := ?_) (tailAt (by kernel_rfl)) hInv (by decide) rfl (by kernel_rfl) (by kernel_rfl) (by kernel_rfl) (fun _ _ _ h => h) (by rfl) (by assumption) ?_ (fun hInv2 => ?_)
              rotate_left
              · (intro w hSw; (try dsimp only at hSw); (subst hSw); go_simp <;> with_reducible rfl)
              clear hInv
              have hInv := hInv2
              clear hInv2
              try simp only [Act.put, List.setIfInBounds_toArray, List.set_cons_zero, List.set_cons_succ] at hInv ⊢
              refine takeS 8 (v := ?_) (tailAt (by kernel_rfl)) hInv (by decide) rfl (by kernel_rfl) (by kernel_rfl) (by kernel_rfl) (fun _ _ _ h => h) (by rfl) (by assumption) ?_ (fun hInv2 => ?_)
              rotate_left
              · (intro w hSw; (try dsimp only at hSw); (subst hSw); go_simp <;> with_reducible rfl)
              clear hInv
              have hInv := hInv2
              clear hInv2
              try simp only [Act.put, List.setIfInBounds_toArray, List.set_cons_zero, List.set_cons_succ] at hInv ⊢
              refine lastS 9 rfl (by decide) (by kernel_rfl) (fun K hK => ?_)
              go_simp
              refine hK.out _ _ ?_
              clear hK K
              refine wpAnyS_done (by kernel_rfl) ?_ _
              go_wp2_with fail
              go_roundw
              case rel => exact ⟨k + 1, by omega, by rw [hkL.out]; go_num, by go_num, hL5⟩
              case measure => simp [intOf]; omega
            | some v =>
              rw [hfx] at r4
              simp only [Option.isSome_some] at r4
              subst r4
              have r7 := r5 v hfx
              subst r7
              obtain ⟨hw1, hw2, hw3⟩ := hws y2 (by rw [if_pos hr, hfx])
              clear hws r1 r5 hr hfx
              have hbX : Below wr.heap.size wr (wr.alloc (.cells #[.int .u64 (y2 : Nat), .int .u64 (y1 : Nat), .int .u64 (y2 : Nat), .bool true, .bool true] (96 : Nat))) := ((Below.refl wr.heap.size wr).alloc (Nat.le_refl _) _)
              obtain ⟨⟨p0, p1, p2, p3, p4⟩, fp, ⟨pc0, _⟩, _⟩ := (hX.to hbX).word hlt
              obtain ⟨⟨q0, q1, q2, q3, q4⟩, fq, ⟨qc0, _⟩, _⟩ := (hX.to hbX).drew.word hlt
              simp only [] at p0 p1 p2 p3 p4 q0 q1 q2 q3 q4
              have hL5 := Lib.hid ((hX.l.set5z (s3 := ck s keep N (k + 1)) hlt y2 hw1 hw2 (fun j hj _ => hw3 j hj)).keep ((Below.refl _ _).alloc (Nat.le_refl _) (.cells #[.int .u64 (y2 : Nat), .int .u64 (y1 : Nat), .int .u64 (y2 : Nat), .bool true, .bool true] (96 : Nat)))).drew
              have u0 := fp (k * 5)
              have u1 := fp (k * 5 + 1)
              have u2 := fp (k * 5 + 2)
              have u3 := fp (k * 5 + 3)
              have u4 := fp (k * 5 + 4)
              have v0 := fq (k * 5)
              have v1 := fq (k * 5 + 1)
              have v2 := fq (k * 5 + 2)
              have v3 := fq (k * 5 + 3)
              have v4 := fq (k * 5 + 4)
              have t0 := fg (k * 5)
              have t1 := fg (k * 5 + 1)
              have t2 := fg (k * 5 + 2)
              have t3 := fg (k * 5 + 3)
              have t4 := fg (k * 5 + 4)
              clear fp fq fg hX hw1 hw2 hw3 hbX
              go_wp2_with fail
              refine wp_region_tail (S := (fun w' => w' = (wr.alloc (.cells #[.int .u64 (y2 : Nat), .int .u64 (y1 : Nat), .int .u64 (y2 : Nat), .bool true, .bool true] (96 : Nat))).drew)) (n := 9) (by kernel_rfl) ?_ (fun hHeld hInv => ?_) (by decide)
              · (try dsimp only)
                all_goals rfl
              refine takeS 0 (v := ?_) (tailAt (by kernel_rfl)) hInv (by decide) rfl (by kernel_rfl) (by kernel_rfl) (by kernel_rfl) (fun _ _ _ h => h) (by rfl) (by assumption) ?_ (fun hInv2 => ?_)
              rotate_left
              · (intro w hSw; (try dsimp only at hSw); (subst hSw); go_simp <;> with_reducible rfl)
              clear hInv
              have hInv := hInv2
              clear hInv2
              try simp only [Act.put, List.setIfInBounds_toArray, List.set_cons_zero, List.set_cons_succ] at hInv ⊢
              refine takeS 1 (v := ?_) (tailAt (by kernel_rfl)) hInv (by decide) rfl (by kernel_rfl) (by kernel_rfl) (by kernel_rfl) (fun _ _ _ h => h) (by rfl) (by assumption) ?_ (fun hInv2 => ?_)
              rotate_left
              · (intro w hSw; (try dsimp only at hSw); (subst hSw); go_simp <;> with_reducible rfl)
              clear hInv
              have hInv := hInv2
              clear hInv2
              try simp only [Act.put, List.setIfInBounds_toArray, List.set_cons_zero, List.set_cons_succ] at hInv ⊢
              refine takeS 2 (v := ?_) (tailAt (by kernel_rfl)) hInv (by decide) rfl (by kernel_rfl) (by kernel_rfl) (by kernel_rfl) (fun _ _ _ h => h) (by rfl) (by assumption) ?_ (fun hInv2 => ?_)
              rotate_left
              · (intro w hSw; (try dsimp only at hSw); (subst hSw); go_simp <;> with_reducible rfl)
              clear hInv
              have hInv := hInv2
              clear hInv2
              try simp only [Act.put, List.setIfInBounds_toArray, List.set_cons_zero, List.set_cons_succ] at hInv ⊢
              refine takeS 3 (v := ?_) (tailAt (by kernel_rfl)) hInv (by decide) rfl (by kernel_rfl) (by kernel_rfl) (by kernel_rfl) (fun _ _ _ h => h) (by rfl) (by assumption) ?_ (fun hInv2 => ?_)
              rotate_left
              · (intro w hSw; (try dsimp only at hSw); (subst hSw); go_simp <;> with_reducible rfl)
              clear hInv
              have hInv := hInv2
              clear hInv2
              try simp only [Act.put, List.setIfInBounds_toArray, List.set_cons_zero, List.set_cons_succ] at hInv ⊢
              refine takeS 4 (v := ?_) (tailAt (by kernel_rfl)) hInv (by decide) rfl (by kernel_rfl) (by kernel_rfl) (by kernel_rfl) (fun _ _ _ h => h) (by rfl) (by assumption) ?_ (fun hInv2 => ?_)
              rotate_left
              · (intro w hSw; (try dsimp only at hSw); (subst hSw); go_simp <;> with_reducible rfl)
              clear hInv
              have hInv := hInv2
              clear hInv2
              try simp only [Act.put, List.setIfInBounds_toArray, List.set_cons_zero, List.set_cons_succ] at hInv ⊢
              refine takeS 5 (v := ?_) (tailAt (by kernel_rfl)) hInv (by decide) rfl (by kernel_rfl) (by kernel_rfl) (by kernel_rfl) (fun _ _ _ h => h) (by rfl) (by assumption) ?_ (fun hInv2 => ?_)
              rotate_left
              · (intro w hSw; (try dsimp only at hSw); (subst hSw); go_simp <;> with_reducible rfl)
              clear hInv
              have hInv := hInv2
              clear hInv2
              try simp only [Act.put, List.setIfInBounds_toArray, List.set_cons_zero, List.set_cons_succ] at hInv ⊢
              refine takeS 6 (v := ?_) (tailAt (by kernel_rfl)) hInv (by decide) rfl (by kernel_rfl) (by kernel_rfl) (by kernel_rfl) (fun _ _ _ h => h) (by rfl) (by assumption) ?_ (fun hInv2 => ?_)
              rotate_left
              · (intro w hSw; (try dsimp only at hSw); (subst hSw); go_simp <;> with_reducible rfl)
              clear hInv
              have hInv := hInv2
              clear hInv2
              try simp only [Act.put, List.setIfInBounds_toArray, List.set_cons_zero, List.set_cons_succ] at hInv ⊢
              refine takeS 7 (v := ?_) (tailAt (by kernel_rfl)) hInv (by decide) rfl (by kernel_rfl) (by kernel_rfl) (by kernel_rfl) (fun _ _ _ h => h) (by rfl) (by assumption) ?_ (fun hInv2 => ?_)
              rotate_left
              · (intro w hSw; (try dsimp only at hSw); (subst hSw); go_simp <;> with_reducible rfl)
              clear hInv
              have hInv := hInv2
              clear hInv2
              try simp only [Act.put, List.setIfInBounds_toArray, List.set_cons_zero, List.set_cons_succ] at hInv ⊢
              refine takeS 8 (v := ?_) (tailAt (by kernel_rfl)) hInv (by decide) rfl (by kernel_rfl) (by kernel_rfl) (by kernel_rfl) (fun _ _ _ h => h) (by rfl) (by assumption) ?_ (fun hInv2 => ?_)
              rotate_left
              · (intro w hSw; (try dsimp only at hSw); (subst hSw); go_simp <;> with_reducible rfl)
              clear hInv
              have hInv := hInv2
              clear hInv2
              try simp only [Act.put, List.setIfInBounds_toArray, List.set_cons_zero, List.set_cons_succ] at hInv ⊢
              refine lastS 9 rfl (by decide) (by kernel_rfl) (fun K hK => ?_)
              go_simp
              refine hK.out _ _ ?_
              clear hK K
              refine wpAnyS_done (by kernel_rfl) ?_ _
              go_wp2_with fail
              go_roundw
              case rel => exact ⟨k + 1, by omega, by rw [hkL.out]; go_num, by go_num, hL5⟩
              case measure => simp [intOf]; omega
          · have hm3 : ((b : Nat) : Int) % 3 = 2 := by omega
            have hm4 : Int.tmod ((b : Nat) : Int) 3 = 2 := by rw [Int.tmod_eq_emod_of_nonneg (by omega)]; exact hm3
            obtain ⟨hw1, hw2, hw3⟩ := hws y1 (by rw [if_neg (by omega), if_pos hr])
            clear hws r1 r4 r5 hr
            have hbX : Below wr.heap.size wr (wr.alloc (.cells #[.int .u64 (y1 : Nat), .int .u64 (y1 : Nat), .int .u64 (y2 : Nat), .bool true, .bool y4] (96 : Nat))) := ((Below.refl wr.heap.size wr).alloc (Nat.le_refl _) _)
            obtain ⟨⟨p0, p1, p2, p3, p4⟩, fp, ⟨pc0, _⟩, _⟩ := (hX.to hbX).word hlt
            obtain ⟨⟨q0, q1, q2, q3, q4⟩, fq, ⟨qc0, _⟩, _⟩ := (hX.to hbX).drew.word hlt
            simp only [] at p0 p1 p2 p3 p4 q0 q1 q2 q3 q4
            have hL5 := Lib.hid ((hX.l.set5z (s3 := ck s keep N (k + 1)) hlt y1 hw1 hw2 (fun j hj _ => hw3 j hj)).keep ((Below.refl _ _).alloc (Nat.le_refl _) (.cells #[.int .u64 (y1 : Nat), .int .u64 (y1 : Nat), .int .u64 (y2 : Nat), .bool true, .bool y4] (96 : Nat)))).drew
            have u0 := fp (k * 5)
            have u1 := fp (k * 5 + 1)
            have u2 := fp (k * 5 + 2)
            have u3 := fp (k * 5 + 3)
            have u4 := fp (k * 5 + 4)
            have v0 := fq (k * 5)
            have v1 := fq (k * 5 + 1)
            have v2 := fq (k * 5 + 2)
            have v3 := fq (k * 5 + 3)
            have v4 := fq (k * 5 + 4)
            have t0 := fg (k * 5)
            have t1 := fg (k * 5 + 1)
            have t2 := fg (k * 5 + 2)
            have t3 := fg (k * 5 + 3)
            have t4 := fg (k * 5 + 4)
            clear fp fq fg hX hw1 hw2 hw3 hbX
            go_wp2_with fail
            refine wp_region_tail (S := (fun w' => w' = (wr.alloc (.cells #[.int .u64 (y1 : Nat), .int .u64 (y1 : Nat), .int .u64 (y2 : Nat), .bool true, .bool y4] (96 : Nat))).drew)) (n := 9) (by kernel_rfl) ?_ (fun hHeld hInv => ?_) (by decide)
            · (try dsimp only)
              all_goals rfl
            refine takeS 0 (v := ?_) (tailAt (by kernel_rfl)) hInv (by decide) rfl (by kernel_rfl) (by kernel_rfl) (by kernel_rfl) (fun _ _ _ h => h) (by rfl) (by assumption) ?_ (fun hInv2 => ?_)
            rotate_left
            · (intro w hSw; (try dsimp only at hSw); (subst hSw); go_simp <;> with_reducible rfl)
            clear hInv
            have hInv := hInv2
            clear hInv2
            try simp only [Act.put, List.setIfInBounds_toArray, List.set_cons_zero, List.set_cons_succ] at hInv ⊢
            refine takeS 1 (v := ?_) (tailAt (by kernel_rfl)) hInv (by decide) rfl (by kernel_rfl) (by kernel_rfl) (by kernel_rfl) (fun _ _ _ h => h) (by rfl) (by assumption) ?_ (fun hInv2 => ?_)
            rotate_left
            · (intro w hSw; (try dsimp only at hSw); (subst hSw); go_simp <;> with_reducible rfl)
            clear hInv
            have hInv := hInv2
            clear hInv2
            try simp only [Act.put, List.setIfInBounds_toArray, List.set_cons_zero, List.set_cons_succ] at hInv ⊢
            refine takeS 2 (v := ?_) (tailAt (by kernel_rfl)) hInv (by decide) rfl (by kernel_rfl) (by kernel_rfl) (by kernel_rfl) (fun _ _ _ h => h) (by rfl) (by assumption) ?_ (fun hInv2 => ?_)
            rotate_left
            · (intro w hSw; (try dsimp only at hSw); (subst hSw); go_simp <;> with_reducible rfl)
            clear hInv
            have hInv := hInv2
            clear hInv2
            try simp only [Act.put, List.setIfInBounds_toArray, List.set_cons_zero, List.set_cons_succ] at hInv ⊢
            refine takeS 3 (v := ?_) (tailAt (by kernel_rfl)) hInv (by decide) rfl (by kernel_rfl) (by kernel_rfl) (by kernel_rfl) (fun _ _ _ h => h) (by rfl) (by assumption) ?_ (fun hInv2 => ?_)
            rotate_left
            · (intro w hSw; (try dsimp only at hSw); (subst hSw); go_simp <;> with_reducible rfl)
            clear hInv
            have hInv := hInv2
            clear hInv2
            try simp only [Act.put, List.setIfInBounds_toArray, List.set_cons_zero, List.set_cons_succ] at hInv ⊢
            refine takeS 4 (v := ?_) (tailAt (by kernel_rfl)) hInv (by decide) rfl (by kernel_rfl) (by kernel_rfl) (by kernel_rfl) (fun _ _ _ h => h) (by rfl) (by assumption) ?_ (fun hInv2 => ?_)
            rotate_left
            · (intro w hSw; (try dsimp only at hSw); (subst hSw); go_simp <;> with_reducible rfl)
            clear hInv
            have hInv := hInv2
            clear hInv2
            try simp only [Act.put, List.setIfInBounds_toArray, List.set_cons_zero, List.set_cons_succ] at hInv ⊢
            refine takeS 5 (v := ?_) (tailAt (by kernel_rfl)) hInv (by decide) rfl (by kernel_rfl) (by kernel_rfl) (by kernel_rfl) (fun _ _ _ h => h) (by rfl) (by assumption) ?_ (fun hInv2 => ?_)
            rotate_left
            · (intro w hSw; (try dsimp only at hSw); (subst hSw); go_simp <;> with_reducible rfl)
            clear hInv
            have hInv := hInv2
            clear hInv2
            try simp only [Act.put, List.setIfInBounds_toArray, List.set_cons_zero, List.set_cons_succ] at hInv ⊢
            refine takeS 6 (v := ?_) (tailAt (by kernel_rfl)) hInv (by decide) rfl (by kernel_rfl) (by kernel_rfl) (by kernel_rfl) (fun _ _ _ h => h) (by rfl) (by assumption) ?_ (fun hInv2 => ?_)
            rotate_left
            · (intro w hSw; (try dsimp only at hSw); (subst hSw); go_simp <;> with_reducible rfl)
            clear hInv
            have hInv := hInv2
            clear hInv2
            try simp only [Act.put, List.setIfInBounds_toArray, List.set_cons_zero, List.set_cons_succ] at hInv ⊢
            refine takeS 7 (v := ?_) (tailAt (by kernel_rfl)) hInv (by decide) rfl (by kernel_rfl) (by kernel_rfl) (by kernel_rfl) (fun _ _ _ h => h) (by rfl) (by assumption) ?_ (fun hInv2 => ?_)
            rotate_left
            · (intro w hSw; (try dsimp only at hSw); (subst hSw); go_simp <;> with_reducible rfl)
            clear hInv
            have hInv := hInv2
            clear hInv2
            try simp only [Act.put, List.setIfInBounds_toArray, List.set_cons_zero, List.set_cons_succ] at hInv ⊢
            refine takeS 8 (v := ?_) (tailAt (by kernel_rfl)) hInv (by decide) rfl (by kernel_rfl) (by kernel_rfl) (by kernel_rfl) (fun _ _ _ h => h) (by rfl) (by assumption) ?_ (fun hInv2 => ?_)
            rotate_left
            · (intro w hSw; (try dsimp only at hSw); (subst hSw); go_simp <;> with_reducible rfl)
            clear hInv
            have hInv := hInv2
            clear hInv2
            try simp only [Act.put, List.setIfInBounds_toArray, List.set_cons_zero, List.set_cons_succ] at hInv ⊢
            refine lastS 9 rfl (by decide) (by kernel_rfl) (fun K hK => ?_)
            go_simp
            refine hK.out _ _ ?_
            clear hK K
            refine wpAnyS_done (by kernel_rfl) ?_ _
            go_wp2_with fail
            go_roundw
            case rel => exact ⟨k + 1, by omega, by rw [hkL.out]; go_num, by go_num, hL5⟩
            case measure => simp [intOf]; omega
        · have hkd2 : (nk : Int) ≤ (dd : Int) := by omega
          have hz : keep.getD dd 0 = 0 := by rw [List.getD_eq_getElem?_getD, List.getElem?_eq_none (by rw [hnk.out]; omega)]; rfl
          obtain ⟨hw1, hw2, hw3⟩ := hws y0 (by rw [hz]; rfl)
          clear hws r1 r3 r4 r5 hKr hcc hff hcx hz
          have hbX : Below wr.heap.size wr (wr.alloc (.cells #[.int .u64 (y0 : Nat), .int .u64 (y1 : Nat), .int .u64 (y2 : Nat), .bool true, .bool y4] (96 : Nat))) := ((Below.refl wr.heap.size wr).alloc (Nat.le_refl _) _)
          obtain ⟨⟨p0, p1, p2, p3, p4⟩, fp, ⟨pc0, _⟩, _⟩ := (hX.to hbX).word hlt
          obtain ⟨⟨q0, q1, q2, q3, q4⟩, fq, ⟨qc0, _⟩, _⟩ := (hX.to hbX).drew.word hlt
          simp only [] at p0 p1 p2 p3 p4 q0 q1 q2 q3 q4
          have hL5 := Lib.hid ((hX.l.set5z (s3 := ck s keep N (k + 1)) hlt y0 hw1 hw2 (fun j hj _ => hw3 j hj)).keep ((Below.refl _ _).alloc (Nat.le_refl _) (.cells #[.int .u64 (y0 : Nat), .int .u64 (y1 : Nat), .int .u64 (y2 : Nat), .bool true, .bool y4] (96 : Nat)))).drew
          have u0 := fp (k * 5)
          have u1 := fp (k * 5 + 1)
          have u2 := fp (k * 5 + 2)
          have u3 := fp (k * 5 + 3)
          have u4 := fp (k * 5 + 4)
          have v0 := fq (k * 5)
          have v1 := fq (k * 5 + 1)
          have v2 := fq (k * 5 + 2)
          have v3 := fq (k * 5 + 3)
          have v4 := fq (k * 5 + 4)
          have t0 := fg (k * 5)
          have t1 := fg (k * 5 + 1)
          have t2 := fg (k * 5 + 2)
          have t3 := fg (k * 5 + 3)
          have t4 := fg (k * 5 + 4)
          clear fp fq fg hX hw1 hw2 hw3 hbX
          go_wp2_with fail
          refine wp_region_tail (S := (fun w' => w' = (wr.alloc (.cells #[.int .u64 (y0 : Nat), .int .u64 (y1 : Nat), .int .u64 (y2 : Nat), .bool true, .bool y4] (96 : Nat))).drew)) (n := 9) (by kernel_rfl) ?_ (fun hHeld hInv => ?_) (by decide)
          · (try dsimp only)
            all_goals rfl
          refine takeS 0 (v := ?_) (tailAt (by kernel_rfl)) hInv (by decide) rfl (by kernel_rfl) (by kernel_rfl) (by kernel_rfl) (fun _ _ _ h => h) (by rfl) (by assumption) ?_ (fun hInv2 => ?_)
          rotate_left
          · (intro w hSw; (try dsimp only at hSw); (subst hSw); go_simp <;> with_reducible rfl)
          clear hInv
          have hInv := hInv2
          clear hInv2
          try simp only [Act.put, List.setIfInBounds_toArray, List.set_cons_zero, List.set_cons_succ] at hInv ⊢
          refine takeS 1 (v := ?_) (tailAt (by kernel_rfl)) hInv (by decide) rfl (by kernel_rfl) (by kernel_rfl) (by kernel_rfl) (fun _ _ _ h => h) (by rfl) (by assumption) ?_ (fun hInv2 => ?_)
          rotate_left
          · (intro w hSw; (try dsimp only at hSw); (subst hSw); go_simp <;> with_reducible rfl)
          clear hInv
          have hInv := hInv2
          clear hInv2
          try simp only [Act.put, List.setIfInBounds_toArray, List.set_cons_zero, List.set_cons_succ] at hInv ⊢
          refine takeS 2 (v := ?_) (tailAt (by kernel_rfl)) hInv (by decide) rfl (by kernel_rfl) (by kernel_rfl) (by kernel_rfl) (fun _ _ _ h => h) (by rfl) (by assumption) ?_ (fun hInv2 => ?_)
          rotate_left
          · (intro w hSw; (try dsimp only at hSw); (subst hSw); go_simp <;> with_reducible rfl)
          clear hInv
          have hInv := hInv2
          clear hInv2
          try simp only [Act.put, List.setIfInBounds_toArray, List.set_cons_zero, List.set_cons_succ] at hInv ⊢
          refine takeS 3 (v := ?_) (tailAt (by kernel_rfl)) hInv (by decide) rfl (by kernel_rfl) (by kernel_rfl) (by kernel_rfl) (fun _ _ _ h => h) (by rfl) (by assumption) ?_ (fun hInv2 => ?_)
          rotate_left
          · (intro w hSw; (try dsimp only at hSw); (subst hSw); go_simp <;> with_reducible rfl)
          clear hInv
          have hInv := hInv2
          clear hInv2
          try simp only [Act.put, List.setIfInBounds_toArray, List.set_cons_zero, List.set_cons_succ] at hInv ⊢
          refine takeS 4 (v := ?_) (tailAt (by kernel_rfl)) hInv (by decide) rfl (by kernel_rfl) (by kernel_rfl) (by kernel_rfl) (fun _ _ _ h => h) (by rfl) (by assumption) ?_ (fun hInv2 => ?_)
          rotate_left
          · (intro w hSw; (try dsimp only at hSw); (subst hSw); go_simp <;> with_reducible rfl)
          clear hInv
          have hInv := hInv2
          clear hInv2
          try simp only [Act.put, List.setIfInBounds_toArray, List.set_cons_zero, List.set_cons_succ] at hInv ⊢
          refine takeS 5 (v := ?_) (tailAt (by kernel_rfl)) hInv (by decide) rfl (by kernel_rfl) (by kernel_rfl) (by kernel_rfl) (fun _ _ _ h => h) (by rfl) (by assumption) ?_ (fun hInv2 => ?_)
          rotate_left
          · (intro w hSw; (try dsimp only at hSw); (subst hSw); go_simp <;> with_reducible rfl)
          clear hInv
          have hInv := hInv2
          clear hInv2
          try simp only [Act.put, List.setIfInBounds_toArray, List.set_cons_zero, List.set_cons_succ] at hInv ⊢
          refine takeS 6 (v := ?_) (tailAt (by kernel_rfl)) hInv (by decide) rfl (by kernel_rfl) (by kernel_rfl) (by kernel_rfl) (fun _ _ _ h => h) (by rfl) (by assumption) ?_ (fun hInv2 => ?_)
          rotate_left
          · (intro w hSw; (try dsimp only at hSw); (subst hSw); go_simp <;> with_reducible rfl)
          clear hInv
          have hInv := hInv2
          clear hInv2
          try simp only [Act.put, List.setIfInBounds_toArray, List.set_cons_zero, List.set_cons_succ] at hInv ⊢
          refine takeS 7 (v := ?_) (tailAt (by kernel_rfl)) hInv (by decide) rfl (by kernel_rfl) (by kernel_rfl) (by kernel_rfl) (fun _ _ _ h => h) (by rfl) (by assumption) ?_ (fun hInv2 => ?_)
          rotate_left
          · (intro w hSw; (try dsimp only at hSw); (subst hSw); go_simp <;> with_reducible rfl)
          clear hInv
          have hInv := hInv2
          clear hInv2
          try simp only [Act.put, List.setIfInBounds_toArray, List.set_cons_zero, List.set_cons_succ] at hInv ⊢
          refine takeS 8 (v := ?_) (tailAt (by kernel_rfl)) hInv (by decide) rfl (by kernel_rfl) (by kernel_rfl) (by kernel_rfl) (fun _ _ _ h => h) (by rfl) (by assumption) ?_ (fun hInv2 => ?_)
          rotate_left
          · (intro w hSw; (try dsimp only at hSw); (subst hSw); go_simp <;> with_reducible rfl)
          clear hInv
          have hInv := hInv2
          clear hInv2
          try simp only [Act.put, List.setIfInBounds_toArray, List.set_cons_zero, List.set_cons_succ] at hInv ⊢
          refine lastS 9 rfl (by decide) (by kernel_rfl) (fun K hK => ?_)
          go_simp
          refine hK.out _ _ ?_
          clear hK K
          refine wpAnyS_done (by kernel_rfl) ?_ _
          go_wp2_with fail
          go_roundw
          case rel => exact ⟨k + 1, by omega, by rw [hkL.out]; go_num, by go_num, hL5⟩
          case measure => simp [intOf]; omega
    · obtain rfl : k = N := by omega
      obtain ⟨c2, c1, f2, f1, hE⟩ := hLh.out.finish rfl
      obtain ⟨y, _, _, _, ⟨c0, _⟩, _⟩ := hLh.out.word (i := 0) (by omega)
      go_wp2_with fail
      go_end0
      exact ⟨rfl, hE.out⟩
end Go.Proofs.Ytcemiclbeocnjaa
