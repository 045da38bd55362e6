/-
  The laws of package tx: TxFresh.
-/
import Derived.Test.YtcemiclbeocnjaaTk22
set_option linter.unusedVariables false
set_option linter.unusedSimpArgs false
namespace Go.Proofs.Ytcemiclbeocnjaa
open Go.RowKit Go.ChangeShapes Go.WideShapes Go.Deep Go.Maps
attribute [local irreducible] wpList

/-- a block that a transaction doesn't change -/
structure Ck (w : World) (F : Nat → Prop) (b : Nat) (c : Obj) : Prop where
  blk : w.heap[b]? = some c
  far : ¬ F b
theorem Ck.lt {w : World} {F : Nat → Prop} {b : Nat} {c : Obj} (h : Ck w F b c) : b < w.heap.size := (Array.getElem?_eq_some_iff.1 h.blk).1
theorem Ck.go {w w' : World} {F F' : Nat → Prop} {b : Nat} {c : Obj} (h : Ck w F b c) (hs : Step F w F' w') : Ck w' F' b c :=
  ⟨(hs.chg.block b h.lt h.far).trans h.blk, fun q => by
    rcases hs.sub b q with z | z
    · exact h.far z
    · have := h.lt; omega⟩
theorem Ck.keep {w w' : World} {F : Nat → Prop} {b : Nat} {c : Obj} (h : Ck w F b c) (hb : Below w.heap.size w w') : Ck w' F b c := h.go (Step.of_below F hb)
theorem Ck.new {w : World} {F : Nat → Prop} (hF : ∀ k, F k → k < w.heap.size) (c : Obj) : Ck (w.alloc c) F w.heap.size c := ⟨World.alloc_heap_new w c, fun q => by have := hF _ q; omega⟩
theorem blk_keep {w w' : World} {b : Nat} {c : Obj} (h : w.heap[b]? = some c) (hb : Below w.heap.size w w') : w'.heap[b]? = some c := (hb.block b (Array.getElem?_eq_some_iff.1 h).1).trans h
theorem blk2 {w : World} {g : Nat} {u0 u1 : Value} {t : TypeId} (h : w.heap[g]? = some (.cells #[u0, u1] t (0, 0))) : w.cell? ⟨g, 0, none⟩ = some u0 ∧ w.cell? ⟨g, 1, none⟩ = some u1 := ⟨(cell_blk h rfl).1, (cell_blk h rfl).1⟩
theorem few_last {l : List Ox} {f : Fx} (h : FewL (l ++ [(0, (0, 0), f)])) : FewL l ∧ GoodF f ∧ l.length ≤ 39 := by
  have h1 := h.1 (0, (0, 0), f) (by simp)
  have h2 := h.2
  rw [List.length_append] at h2
  simp only [List.length_cons, List.length_nil] at h2
  obtain ⟨_, _, _, _, a, b, c, d, e⟩ := h1
  exact ⟨⟨fun o ho => h.1 o (List.mem_append_left _ ho), by omega⟩, ⟨a, b, c, d, e⟩, by omega⟩
theorem OL.snoc {l : List Ox} (h : OL l) (hz : l.length * 96 ≤ 140737488351232) {f : Fx} (hf : FB f) : OL (l ++ [(0, (0, 0), f)]) :=
  ⟨by rw [List.length_append]; simp only [List.length_cons, List.length_nil]; omega, fun o ho => by
    rcases List.mem_append.1 ho with q | q
    · exact h.2 o q
    · rw [List.mem_singleton] at q
      subst q
      exact ⟨by simp, ⟨by simp, by simp⟩, ⟨by simp, by simp⟩, hf⟩⟩

theorem make_N {w0 w : World} {B : Nat} {F : Nat → Prop} {s : St} (h : TxN w0 w B F s) (f : Fx) (hx : I64 f.2.1) (hn : s.n ≤ 1000000) :
    Calls Try.prog 40 #[.pointer (some ⟨B, 0, none⟩), fV f] w fun e w' => e = .returned (.tuple #[]) ∧ TxN w0 w' B F { s with fresh := putF s.fresh f.2.1 f, n := s.n + 1 } ∧ Step F w F w' := by
  refine (Make_any B F s f w h.tx hx hn).mono ?_
  rintro e w1 ⟨rfl, ht, hc⟩
  exact ⟨rfl, h.go (Step.same hc) ht, Step.same hc⟩
theorem unmake_N {w0 w : World} {B : Nat} {F : Nat → Prop} {s : St} (h : TxN w0 w B F s) {x : Int} (hx : I64 x) {y : Option Fx} (hy : s.fresh x = y) :
    Calls Try.prog 41 #[.pointer (some ⟨B, 0, none⟩), .int .i64 x] w fun e w' => e = .returned (.tuple #[fV (y.getD fx0), .bool y.isSome]) ∧ TxN w0 w' B F { s with fresh := delF s.fresh x } ∧ Step F w F w' := by
  subst hy
  refine (Unmake_any B F s x w h.tx hx).mono ?_
  rintro e w1 ⟨rfl, ht, hc⟩
  exact ⟨rfl, h.go (Step.same hc) ht, Step.same hc⟩
theorem Rel.fresh_all {s : St} {r : Rf} {k : Nat} (h : Rel s r k) (hk : k ≤ 100) {f : Fx} (hf : GoodF f) : ∃ s1 s2 s3, s1 = { s with fresh := putF s.fresh f.2.1 f, n := s.n + 1 } ∧ s2 = { s1 with fresh := delF s1.fresh f.2.1 } ∧ s3 = { s2 with fresh := delF s2.fresh f.2.1 } ∧
    GoodS s1 ∧ GoodS s3 ∧ (covS (mayL s1) (objS f) = true ∧ missS (mayL s1) (objS f) = []) ∧ s1.fresh f.2.1 = some f ∧ s2.fresh f.2.1 = none ∧ covS (mayL s3) (objS f) = covS s.noted (objS f) ∧ s3.noted = s.noted := by
  obtain ⟨a, b, c, d⟩ := h.fresh_may hf
  exact ⟨_, _, _, rfl, rfl, rfl, (h.make hf).goodS (by omega), ((((h.make hf).unmake f.2.1).1).unmake f.2.1).1.goodS (by omega), a, b, c, d, rfl⟩
set_option maxRecDepth 10000 in
set_option maxHeartbeats 8000000 in
theorem txFresh (v : Value) (l : List Ox) (f : Fx) (w : World) (hl : OL l) (hv : OPL w v l) (hz : l.length * 96 ≤ 140737488351232) (hf : FB f) :
    Calls Try.prog 8 #[v, fV f] w fun e w' => e = .returned (.bool true) ∧ Below w.heap.size w w' := by
  obtain ⟨n, hn⟩ : ∃ n, l.length = n := ⟨_, rfl⟩
  obtain ⟨⟨x1, x2, x3, x4, x5⟩, x6, x7, x8, x9⟩ := f
  simp only [fV, fE]
  obtain ⟨w0, hw0⟩ : ∃ w0, w.alloc (.cells #[.int .i64 x1, .int .i64 x2, .int .i64 x3, .int .i64 x4, .bool x5, .int .i64 x6, .int .i64 x7, .int .i64 x8, .int .u64 x9] (69 : Nat)) = w0 := ⟨_, rfl⟩
  have hb0 : Below w.heap.size w w0 := by rw [← hw0]; exact (Below.refl _ w).alloc (Nat.le_refl _) _
  have kk : w0.heap[w.heap.size]? = some (.cells #[.int .i64 x1, .int .i64 x2, .int .i64 x3, .int .i64 x4, .bool x5, .int .i64 x6, .int .i64 x7, .int .i64 x8, .int .u64 x9] (69 : Nat) (0, 0)) := by rw [← hw0]; exact World.alloc_heap_new w _
  have hs0 : w0.heap.size = w.heap.size + 1 := by rw [← hw0]; simp
  have hAw := awake_any w0
  have hv0 := hv.keep hb0
  have hol := hl.snoc hz hf
  obtain ⟨A, cap, rfl, hC⟩ := EL.form hv0 hn
  replace hC := Lib.hid hC
  have hn9 : n ≤ 9223372036854775807 := by have := hl.1; omega
  have hnn := Lib.hid hn
  have hb0h := Lib.hid hb0
  have hCx := Lib.hid (fun (w' : World) (hb : Below w0.heap.size w0 w') => show w'.cell? ⟨w.heap.size, 0, none⟩ = some (.int .i64 x1) ∧ w'.cell? ⟨w.heap.size, 1, none⟩ = some (.int .i64 x2) ∧ w'.cell? ⟨w.heap.size, 2, none⟩ = some (.int .i64 x3) ∧ w'.cell? ⟨w.heap.size, 3, none⟩ = some (.int .i64 x4) ∧ w'.cell? ⟨w.heap.size, 4, none⟩ = some (.bool x5) ∧ w'.cell? ⟨w.heap.size, 5, none⟩ = some (.int .i64 x6) ∧ w'.cell? ⟨w.heap.size, 6, none⟩ = some (.int .i64 x7) ∧ w'.cell? ⟨w.heap.size, 7, none⟩ = some (.int .i64 x8) ∧ w'.cell? ⟨w.heap.size, 8, none⟩ = some (.int .u64 x9) from (blk9 (blk_keep kk hb)).1)
  clear hv hn hb0 kk hf hl
  go_enter Try.func8, Try.ntmps8
  go_wp2_with (first
    | (go_at_call 29; refine hAw.mono ?_; rintro e w1 ⟨rfl, hb1⟩
       clear hAw))
  have hv1 := hv0.keep hb1
  have hR := R2.start w1 l (0, (0, 0), ((x1, x2, x3, x4, x5), x6, x7, x8, x9))
  refine wp_region_tail (S := (fun w' => Below w1.heap.size w1 w')) (n := 6) (by kernel_rfl) ?_ (fun hHeld hInv => ?_) (by decide)
  · (try dsimp only)
    exact hR.bel
  refine takeS 1 (v := ?_) (tailAt (by kernel_rfl)) hInv (by decide) rfl (by kernel_rfl) (by kernel_rfl) (by kernel_rfl) (fun _ _ _ h => h) (by rfl) (by assumption) ?_ (fun hInv2 => ?_)
  rotate_left
  · (intro w hSw; (try dsimp only at hSw); obtain ⟨p0, p1, p2, p3, p4, p5, p6, p7, p8⟩ := hCx.out w (hb1.trans (hSw.mono hb1.size)); go_simp <;> with_reducible rfl)
  clear hInv
  have hInv := hInv2
  clear hInv2
  try simp only [Act.put, List.setIfInBounds_toArray, List.set_cons_zero, List.set_cons_succ] at hInv ⊢
  refine takeS 3 (v := ?_) (tailAt (by kernel_rfl)) hInv (by decide) rfl (by kernel_rfl) (by kernel_rfl) (by kernel_rfl) (fun _ _ _ h => h) (by rfl) (by assumption) ?_ (fun hInv2 => ?_)
  rotate_left
  · (intro w hSw; (try dsimp only at hSw); obtain ⟨p0, p1, p2, p3, p4, p5, p6, p7, p8⟩ := hCx.out w (hb1.trans (hSw.mono hb1.size)); go_simp <;> with_reducible rfl)
  clear hInv
  have hInv := hInv2
  clear hInv2
  try simp only [Act.put, List.setIfInBounds_toArray, List.set_cons_zero, List.set_cons_succ] at hInv ⊢
  refine takeS 4 (v := ?_) (tailAt (by kernel_rfl)) hInv (by decide) rfl (by kernel_rfl) (by kernel_rfl) (by kernel_rfl) (fun _ _ _ h => h) (by rfl) (by assumption) ?_ (fun hInv2 => ?_)
  rotate_left
  · (intro w hSw; (try dsimp only at hSw); obtain ⟨p0, p1, p2, p3, p4, p5, p6, p7, p8⟩ := hCx.out w (hb1.trans (hSw.mono hb1.size)); go_simp <;> with_reducible rfl)
  clear hInv
  have hInv := hInv2
  clear hInv2
  try simp only [Act.put, List.setIfInBounds_toArray, List.set_cons_zero, List.set_cons_succ] at hInv ⊢
  refine twoS 0 5 hInv (by decide) (by decide) rfl rfl (by kernel_rfl) (fun K hK => ?_) (fun K hK => ?_)
  · go_simp
    replace hR := hR.s0
    refine hK.out _ _ ?_ (fun hHeld2 hInv2 => ?_)
    · (try dsimp only)
      exact hR.bel
    clear hK K hHeld hInv
    have hHeld := hHeld2
    have hInv := hInv2
    clear hHeld2 hInv2
    try simp only [Act.put, List.setIfInBounds_toArray, List.set_cons_zero, List.set_cons_succ] at hInv ⊢
    refine twoS 2 5 hInv (by decide) (by decide) rfl rfl (by kernel_rfl) (fun K hK => ?_) (fun K hK => ?_)
    · rw [if_pos (by rfl)]
      obtain ⟨v', w', hrun, hR2⟩ := hR.s2 hv1 hz
      (try simp only [World.size_alloc] at hrun)
      refine wp_append_run _ _ _ _ rfl _ _ _ rfl rfl hrun ?_
      clear hrun hR
      have hR := hR2
      clear hR2
      refine hK.out _ _ ?_ (fun hHeld2 hInv2 => ?_)
      · (try dsimp only)
        exact hR.bel
      clear hK K hHeld hInv
      have hHeld := hHeld2
      have hInv := hInv2
      clear hHeld2 hInv2
      try simp only [Act.put, List.setIfInBounds_toArray, List.set_cons_zero, List.set_cons_succ] at hInv ⊢
      refine oneS 5 hInv (by decide) rfl (by kernel_rfl) (fun K hK => ?_)
      go_simp
      replace hR := hR.s5
      refine hK.out _ _ ?_ (fun hHeld2 hInv2 => ?_)
      · (try dsimp only)
        exact hR.bel
      clear hK K hHeld hInv
      have hHeld := hHeld2
      have hInv := hInv2
      clear hHeld2 hInv2
      try simp only [Act.put, List.setIfInBounds_toArray, List.set_cons_zero, List.set_cons_succ] at hInv ⊢
      refine lastS 6 rfl (by decide) (by kernel_rfl) (fun K hK => ?_)
      rw [if_pos (by rfl)]
      obtain ⟨v6, w6, hrun, ho6, hb6⟩ := hR.last hz
      (try simp only [World.size_alloc] at hrun)
      refine wp_append_run _ _ _ _ rfl _ _ _ rfl rfl hrun ?_
      clear hrun
      refine hK.out _ _ ?_
      clear hK K
      try simp only [Act.put, List.setIfInBounds_toArray, List.set_cons_zero, List.set_cons_succ]
      refine lastS 7 rfl (by decide) (by kernel_rfl) (fun K hK => ?_)
      go_simp
      have hFw := few_any v6 _ w6 hol (ho6.el oE_len)
      (with_reducible refine hFw.mono ?_); rintro e w7 ⟨⟨t, rfl, ht⟩, hb7⟩
      refine hK.out _ _ ?_
      clear hK K
      try simp only [Act.put, List.setIfInBounds_toArray, List.set_cons_zero, List.set_cons_succ]
      refine lastS 8 rfl (by decide) (by kernel_rfl) (fun K hK => ?_)
      go_simp
      refine hK.out _ _ ?_
      clear hK K
      try simp only [Act.put, List.setIfInBounds_toArray, List.set_cons_zero, List.set_cons_succ]
      refine wpAnyS_done (by kernel_rfl) ?_ _
      have hb2w : Below w0.heap.size w0 w7 := hb1.trans ((hb6.trans (hb7.mono hb6.size)).mono hb1.size)
      clear hR hv1 hv0 ho6 hb6 hb7 hb1 hol
      cases t
      · go_wp2_with fail
        go_ret
        exact ⟨rfl, hb0h.out.trans (hb2w.mono (by omega))⟩
      obtain ⟨w2, hw2⟩ : ∃ w2, w7 = w2 := ⟨_, rfl⟩
      subst hw2
      obtain ⟨hFL0, hGF, hl39⟩ := few_last (ht rfl)
      have hFL := Lib.hid hFL0
      have hn39 : n ≤ 39 := by have := hnn.out; omega
      have hsz2 := hb2w.size
      clear ht hz hFL0 hl39
      go_wp2_with (first
        | (go_at_call 31; refine (new_N w7).mono ?_; rintro e w3 ⟨B, F, rfl, T0⟩))
      have hD0 := start_both T0
      obtain ⟨B2, hB2e⟩ : ∃ B2, w3.heap.size = B2 := ⟨_, rfl⟩
      rw [hB2e] at hD0 ⊢
      clear T0 hB2e
      go_loopw [9] (fun i wr => ∃ k : Nat, k ≤ n ∧ i = .int .i64 k ∧ DoP w7 B B2 k wr) (fun i _ => n + 1 - (intOf i).toNat)
      case atStart => exact ⟨0, Nat.zero_le _, rfl, hD0⟩
      case round =>
        clear hD0
        obtain ⟨k, hk, rfl, hD⟩ := hrel
        have hB := hb2w.trans (hD.bel.mono hsz2)
        by_cases hlt : k < n
        · obtain ⟨g, off, rfl, hcap, _, hg, hcl⟩ := hC.out wr k hB hlt
          have hlt' : (k : Int) < (n : Int) := by omega
          have hfo := fewO_at hFL.out (k := k) (by have := hnn.out; omega)
          generalize l.getD k default = o at *
          have hDo := do_any o hD (by omega) hfo
          obtain ⟨kd, ⟨fr, mn⟩, ⟨a1, a2, a3, a4, a5⟩, at_, a7, sz, a9⟩ := o
          have c0 : wr.cell? ⟨g, off + k * 12, none⟩ = some (.int .u8 (kd : Nat)) := hcl 0 (by omega)
          have c1 : wr.cell? ⟨g, off + k * 12 + 1, none⟩ = some (.int .i64 fr) := hcl 1 (by omega)
          have c2 : wr.cell? ⟨g, off + k * 12 + 2, none⟩ = some (.int .i64 mn) := hcl 2 (by omega)
          have c3 : wr.cell? ⟨g, off + k * 12 + 3, none⟩ = some (.int .i64 a1) := hcl 3 (by omega)
          have c4 : wr.cell? ⟨g, off + k * 12 + 4, none⟩ = some (.int .i64 a2) := hcl 4 (by omega)
          have c5 : wr.cell? ⟨g, off + k * 12 + 5, none⟩ = some (.int .i64 a3) := hcl 5 (by omega)
          have c6 : wr.cell? ⟨g, off + k * 12 + 6, none⟩ = some (.int .i64 a4) := hcl 6 (by omega)
          have c7 : wr.cell? ⟨g, off + k * 12 + 7, none⟩ = some (.bool a5) := hcl 7 (by omega)
          have c8 : wr.cell? ⟨g, off + k * 12 + 8, none⟩ = some (.int .i64 at_) := hcl 8 (by omega)
          have c9 : wr.cell? ⟨g, off + k * 12 + 9, none⟩ = some (.int .i64 a7) := hcl 9 (by omega)
          have c10 : wr.cell? ⟨g, off + k * 12 + 10, none⟩ = some (.int .i64 sz) := hcl 10 (by omega)
          have c11 : wr.cell? ⟨g, off + k * 12 + 11, none⟩ = some (.int .u64 a9) := hcl 11 (by omega)
          simp only [oE, fE] at hDo
          clear hcl hfo
          go_wp2_with (go_at_call 32; refine hDo.mono ?_; rintro e w4 ⟨rfl, hD4⟩; clear hDo)
          go_roundw
          case rel => exact ⟨k + 1, by omega, by go_num, hD4⟩
          case measure => simp [intOf]; omega
        · obtain rfl : k = n := by omega
          obtain ⟨F1, s, G, r, hbn, hr⟩ := hD
          have hT := hbn.tx
          obtain ⟨s1, s2, s3, e1, e2, e3, g1, g3, ⟨z1, z2⟩, z3, z4, z5, z6⟩ := hr.fresh_all (by omega) hGF
          have hin := hGF.inn
          have hGF2 := hGF
          obtain ⟨f5, f6, f7, f8, _⟩ := hGF2
          simp only [] at f5 f6 f7 f8
          have hSB : SB (x6, x8 + 2) := by unfold SB; simp only []; omega
          have hx6 : I64 x6 := ⟨by omega, by omega⟩
          have hok := Lib.hid hr.ok
          have hlen : s3.noted.length ≤ 1000000 := by rw [z6]; have := hr.ok.len; omega
          have hsn : s.n ≤ 1000000 := by have := hr.n; omega
          replace hin : ∀ z, SIn (x6, x8 + 2) z → 0 ≤ z ∧ z < 300 := hin
          replace z1 : covS (mayL s1) (x6, x8 + 2) = true := z1
          replace z2 : missS (mayL s1) (x6, x8 + 2) = [] := z2
          replace z5 : covS (mayL s3) (x6, x8 + 2) = covS s.noted (x6, x8 + 2) := z5
          obtain ⟨cc, hcc⟩ : ∃ c, covS s.noted (x6, x8 + 2) = c := ⟨_, rfl⟩
          rw [hcc] at z5
          have tcc : (cc == cc) = true := by simp
          have hAl := (Below.refl _ wr).alloc (Nat.le_refl _) (.cells #[.int .i64 x6, .int .i64 (x8 + 2)] (63 : Nat))
          have TA := hT.keep hAl
          have qA : Ck (wr.alloc (.cells #[.int .i64 x6, .int .i64 (x8 + 2)] (63 : Nat))) F1 wr.heap.size (.cells #[.int .i64 x6, .int .i64 (x8 + 2)] (63 : Nat) (0, 0)) := Ck.new hT.tx.lt _
          have hMk := make_N TA ((x1, x2, x3, x4, x5), x6, x7, x8, x9) hx6 hsn
          rw [← e1] at hMk
          simp only [fV, fE] at hMk
          have hMy := Lib.hid (fun (w' : World) (h : TxN w7 w' B F1 s1) => may_N h g1 hSB)
          have hNt := Lib.hid (fun (w' : World) (h : TxN w7 w' B F1 s1) => note_N h g1 hSB hin)
          have hUn := Lib.hid (fun (w' : World) (F' : Nat → Prop) (h : TxN w7 w' B F' s1) => unmake_N h hx6 z3)
          have hUn2 := Lib.hid (fun (w' : World) (F' : Nat → Prop) (h : TxN w7 w' B F' s2) => unmake_N h hx6 z4)
          have hMy2 := Lib.hid (fun (w' : World) (F' : Nat → Prop) (h : TxN w7 w' B F' s3) => may_N h g3 hSB)
          rw [z1] at hMy
          rw [z2] at hNt
          rw [← e2] at hUn
          rw [← e3] at hUn2
          rw [z5] at hMy2
          simp only [Option.getD_some, Option.getD_none, Option.isSome_some, Option.isSome_none, fV, fE, fx0] at hUn hUn2
          have hlx : w.heap.size < wr.heap.size := by have := hB.size; omega
          obtain ⟨p0, p1, p2, p3, p4, p5, p6, p7, p8⟩ := hCx.out wr hB
          clear hr hbn hT e1 e2 e3 g1 g3 z1 z2 z3 z4 z5 hGF hC hFL
          go_wp2_with (first
            | (go_at_call 40; refine hMk.mono ?_; rintro e w4 ⟨rfl, T4, S4⟩
               have q4 := qA.go S4
               obtain ⟨k0, k1⟩ := blk2 q4.blk
               obtain ⟨p0, p1, p2, p3, p4, p5, p6, p7, p8⟩ := hCx.out w4 (hb2w.trans (T4.bel.mono hsz2))
               have h4 := hMy.out w4 T4
               clear hMk qA TA S4)
            | (go_at_call 34; refine h4.mono ?_; rintro e w5 ⟨rfl, T5, hb5, _⟩
               have q5 := q4.keep hb5
               obtain ⟨k0, k1⟩ := blk2 q5.blk
               obtain ⟨p0, p1, p2, p3, p4, p5, p6, p7, p8⟩ := hCx.out w5 (hb2w.trans (T5.bel.mono hsz2))
               have h5 := hNt.out w5 T5
               clear h4 q4 T4 hb5 hMy)
            | (go_at_call 35; refine h5.mono ?_; rintro e w6 ⟨v6, F6, rfl, o6, T6, S6, _, _⟩
               replace T6 : TxN w7 w6 B F6 s1 := T6
               have q6 := q5.go S6
               obtain ⟨A6, cap6, rfl, _⟩ := ((ownSp_iff.1 o6.own).el spE_len).form (n := 0) rfl
               obtain ⟨k0, k1⟩ := blk2 q6.blk
               obtain ⟨p0, p1, p2, p3, p4, p5, p6, p7, p8⟩ := hCx.out w6 (hb2w.trans (T6.bel.mono hsz2))
               have h6 := hUn.out w6 F6 T6
               clear h5 q5 T5 S6 o6 hNt)
            | (go_at_call 41; refine h6.mono ?_; rintro e w8 ⟨rfl, T8, S8⟩
               have hA8 := (Below.refl _ w8).alloc (Nat.le_refl _) (.cells #[.int .i64 x1, .int .i64 x2, .int .i64 x3, .int .i64 x4, .bool x5, .int .i64 x6, .int .i64 x7, .int .i64 x8, .int .u64 x9] (69 : Nat))
               have q8 := (q6.go S8).keep hA8
               have T9 := T8.keep hA8
               have r9 : Ck (w8.alloc (.cells #[.int .i64 x1, .int .i64 x2, .int .i64 x3, .int .i64 x4, .bool x5, .int .i64 x6, .int .i64 x7, .int .i64 x8, .int .u64 x9] (69 : Nat))) F6 w8.heap.size (.cells #[.int .i64 x1, .int .i64 x2, .int .i64 x3, .int .i64 x4, .bool x5, .int .i64 x6, .int .i64 x7, .int .i64 x8, .int .u64 x9] (69 : Nat) (0, 0)) := Ck.new T8.tx.lt _
               have hl8 : w.heap.size < w8.heap.size := by have := (hb2w.trans (T8.bel.mono hsz2)).size; omega
               obtain ⟨p0, p1, p2, p3, p4, p5, p6, p7, p8⟩ := hCx.out w8 (hb2w.trans (T8.bel.mono hsz2))
               have h8 := hUn2.out _ F6 T9
               clear h6 q6 T6 S8 hUn T8)
            | (go_at_call 41; refine h8.mono ?_; rintro e w9 ⟨rfl, T10, S10⟩
               have hA9 := (Below.refl _ w9).alloc (Nat.le_refl _) (.cells #[.int .i64 0, .int .i64 0, .int .i64 0, .int .i64 0, .bool false, .int .i64 0, .int .i64 0, .int .i64 0, .int .u64 0] (69 : Nat))
               have q9 := (q8.go S10).keep hA9
               have r10 := (r9.go S10).keep hA9
               have T11 := T10.keep hA9
               clear h8 q8 r9 T9 T10 S10 hUn2 p0 p1 p2 p3 p4 p5 p6 p7 p8 k0 k1))
          obtain ⟨W, hWq⟩ : ∃ W, (w9.alloc (.cells #[.int .i64 0, .int .i64 0, .int .i64 0, .int .i64 0, .bool false, .int .i64 0, .int .i64 0, .int .i64 0, .int .u64 0] (69 : Nat))).drew = W := ⟨_, rfl⟩
          have TW : TxN w7 W B F6 s3 := by rw [← hWq]; exact T11.keep (Below.refl _ _).drew
          have qW := q9.keep (show Below _ _ W from by rw [← hWq]; exact (Below.refl _ _).drew)
          have rW := r10.keep (show Below _ _ W from by rw [← hWq]; exact (Below.refl _ _).drew)
          have hbW : Below w0.heap.size w0 W := hb2w.trans (TW.bel.mono hsz2)
          have hMv := hMy2.out W F6 TW
          have hCells := Lib.hid (fun (w' : World) (h : Below W.heap.size W w') => show (w'.cell? ⟨w.heap.size, 0, none⟩ = some (.int .i64 x1) ∧ w'.cell? ⟨w.heap.size, 1, none⟩ = some (.int .i64 x2) ∧ w'.cell? ⟨w.heap.size, 2, none⟩ = some (.int .i64 x3) ∧ w'.cell? ⟨w.heap.size, 3, none⟩ = some (.int .i64 x4) ∧ w'.cell? ⟨w.heap.size, 4, none⟩ = some (.bool x5) ∧ w'.cell? ⟨w.heap.size, 5, none⟩ = some (.int .i64 x6) ∧ w'.cell? ⟨w.heap.size, 6, none⟩ = some (.int .i64 x7) ∧ w'.cell? ⟨w.heap.size, 7, none⟩ = some (.int .i64 x8) ∧ w'.cell? ⟨w.heap.size, 8, none⟩ = some (.int .u64 x9)) ∧ (w'.cell? ⟨w8.heap.size, 0, none⟩ = some (.int .i64 x1) ∧ w'.cell? ⟨w8.heap.size, 1, none⟩ = some (.int .i64 x2) ∧ w'.cell? ⟨w8.heap.size, 2, none⟩ = some (.int .i64 x3) ∧ w'.cell? ⟨w8.heap.size, 3, none⟩ = some (.int .i64 x4) ∧ w'.cell? ⟨w8.heap.size, 4, none⟩ = some (.bool x5) ∧ w'.cell? ⟨w8.heap.size, 5, none⟩ = some (.int .i64 x6) ∧ w'.cell? ⟨w8.heap.size, 6, none⟩ = some (.int .i64 x7) ∧ w'.cell? ⟨w8.heap.size, 7, none⟩ = some (.int .i64 x8) ∧ w'.cell? ⟨w8.heap.size, 8, none⟩ = some (.int .u64 x9)) ∧ (w'.cell? ⟨wr.heap.size, 0, none⟩ = some (.int .i64 x6) ∧ w'.cell? ⟨wr.heap.size, 1, none⟩ = some (.int .i64 (x8 + 2))) from
            ⟨hCx.out w' (hbW.trans (h.mono hbW.size)), (blk9 (rW.keep h).blk).1, blk2 (qW.keep h).blk⟩)
          have hbK := Below.refl W.heap.size W
          clear T11 q9 r10 qW rW hMy2
          refine wp_region_held_drew (S := (fun w' => Below W.heap.size W w')) (by kernel_rfl) ?_ (fun hHeld => ?_)
          · (try dsimp only)
            (first | exact hbK | (rw [hWq]; exact hbK))
          rw [hWq]
          clear hWq
          refine takeL 0 (v := ?_) rfl (by kernel_rfl) (by kernel_rfl) (by kernel_rfl) (fun _ _ _ h => h) (by rfl) (by assumption) ?_ ?_
          rotate_left
          · (intro w hSw; (try dsimp only at hSw); obtain ⟨⟨p0, p1, p2, p3, p4, p5, p6, p7, p8⟩, ⟨g0, g1, g2, g3, g4, g5, g6, g7, g8⟩, k0, k1⟩ := hCells.out w hSw; go_simp <;> with_reducible rfl)
          try simp only [Act.put, List.setIfInBounds_toArray, List.set_cons_zero, List.set_cons_succ]
          refine takeL 1 (v := ?_) rfl (by kernel_rfl) (by kernel_rfl) (by kernel_rfl) (fun _ _ _ h => h) (by rfl) (by assumption) ?_ ?_
          rotate_left
          · (intro w hSw; (try dsimp only at hSw); obtain ⟨⟨p0, p1, p2, p3, p4, p5, p6, p7, p8⟩, ⟨g0, g1, g2, g3, g4, g5, g6, g7, g8⟩, k0, k1⟩ := hCells.out w hSw; go_simp <;> with_reducible rfl)
          try simp only [Act.put, List.setIfInBounds_toArray, List.set_cons_zero, List.set_cons_succ]
          refine takeL 2 (v := ?_) rfl (by kernel_rfl) (by kernel_rfl) (by kernel_rfl) (fun _ _ _ h => h) (by rfl) (by assumption) ?_ ?_
          rotate_left
          · (intro w hSw; (try dsimp only at hSw); obtain ⟨⟨p0, p1, p2, p3, p4, p5, p6, p7, p8⟩, ⟨g0, g1, g2, g3, g4, g5, g6, g7, g8⟩, k0, k1⟩ := hCells.out w hSw; go_simp <;> with_reducible rfl)
          try simp only [Act.put, List.setIfInBounds_toArray, List.set_cons_zero, List.set_cons_succ]
          refine takeL 3 (v := ?_) rfl (by kernel_rfl) (by kernel_rfl) (by kernel_rfl) (fun _ _ _ h => h) (by rfl) (by assumption) ?_ ?_
          rotate_left
          · (intro w hSw; (try dsimp only at hSw); obtain ⟨⟨p0, p1, p2, p3, p4, p5, p6, p7, p8⟩, ⟨g0, g1, g2, g3, g4, g5, g6, g7, g8⟩, k0, k1⟩ := hCells.out w hSw; go_simp <;> with_reducible rfl)
          try simp only [Act.put, List.setIfInBounds_toArray, List.set_cons_zero, List.set_cons_succ]
          refine takeL 4 (v := ?_) rfl (by kernel_rfl) (by kernel_rfl) (by kernel_rfl) (fun _ _ _ h => h) (by rfl) (by assumption) ?_ ?_
          rotate_left
          · (intro w hSw; (try dsimp only at hSw); obtain ⟨⟨p0, p1, p2, p3, p4, p5, p6, p7, p8⟩, ⟨g0, g1, g2, g3, g4, g5, g6, g7, g8⟩, k0, k1⟩ := hCells.out w hSw; go_simp <;> with_reducible rfl)
          try simp only [Act.put, List.setIfInBounds_toArray, List.set_cons_zero, List.set_cons_succ]
          refine takeL 5 (v := ?_) rfl (by kernel_rfl) (by kernel_rfl) (by kernel_rfl) (fun _ _ _ h => h) (by rfl) (by assumption) ?_ ?_
          rotate_left
          · (intro w hSw; (try dsimp only at hSw); obtain ⟨⟨p0, p1, p2, p3, p4, p5, p6, p7, p8⟩, ⟨g0, g1, g2, g3, g4, g5, g6, g7, g8⟩, k0, k1⟩ := hCells.out w hSw; go_simp <;> with_reducible rfl)
          try simp only [Act.put, List.setIfInBounds_toArray, List.set_cons_zero, List.set_cons_succ]
          refine takeL 6 (v := ?_) rfl (by kernel_rfl) (by kernel_rfl) (by kernel_rfl) (fun _ _ _ h => h) (by rfl) (by assumption) ?_ ?_
          rotate_left
          · (intro w hSw; (try dsimp only at hSw); obtain ⟨⟨p0, p1, p2, p3, p4, p5, p6, p7, p8⟩, ⟨g0, g1, g2, g3, g4, g5, g6, g7, g8⟩, k0, k1⟩ := hCells.out w hSw; go_simp <;> with_reducible rfl)
          try simp only [Act.put, List.setIfInBounds_toArray, List.set_cons_zero, List.set_cons_succ]
          refine takeL 7 (v := ?_) rfl (by kernel_rfl) (by kernel_rfl) (by kernel_rfl) (fun _ _ _ h => h) (by rfl) (by assumption) ?_ ?_
          rotate_left
          · (intro w hSw; (try dsimp only at hSw); obtain ⟨⟨p0, p1, p2, p3, p4, p5, p6, p7, p8⟩, ⟨g0, g1, g2, g3, g4, g5, g6, g7, g8⟩, k0, k1⟩ := hCells.out w hSw; go_simp <;> with_reducible rfl)
          try simp only [Act.put, List.setIfInBounds_toArray, List.set_cons_zero, List.set_cons_succ]
          refine takeL 8 (v := ?_) rfl (by kernel_rfl) (by kernel_rfl) (by kernel_rfl) (fun _ _ _ h => h) (by rfl) (by assumption) ?_ ?_
          rotate_left
          · (intro w hSw; (try dsimp only at hSw); obtain ⟨⟨p0, p1, p2, p3, p4, p5, p6, p7, p8⟩, ⟨g0, g1, g2, g3, g4, g5, g6, g7, g8⟩, k0, k1⟩ := hCells.out w hSw; go_simp <;> with_reducible rfl)
          try simp only [Act.put, List.setIfInBounds_toArray, List.set_cons_zero, List.set_cons_succ]
          refine takeL 9 (v := ?_) rfl (by kernel_rfl) (by kernel_rfl) (by kernel_rfl) (fun _ _ _ h => h) (by rfl) (by assumption) ?_ ?_
          rotate_left
          · (intro w hSw; (try dsimp only at hSw); obtain ⟨⟨p0, p1, p2, p3, p4, p5, p6, p7, p8⟩, ⟨g0, g1, g2, g3, g4, g5, g6, g7, g8⟩, k0, k1⟩ := hCells.out w hSw; go_simp <;> with_reducible rfl)
          try simp only [Act.put, List.setIfInBounds_toArray, List.set_cons_zero, List.set_cons_succ]
          refine takeL 10 (v := ?_) rfl (by kernel_rfl) (by kernel_rfl) (by kernel_rfl) (fun _ _ _ h => h) (by rfl) (by assumption) ?_ ?_
          rotate_left
          · (intro w hSw; (try dsimp only at hSw); obtain ⟨⟨p0, p1, p2, p3, p4, p5, p6, p7, p8⟩, ⟨g0, g1, g2, g3, g4, g5, g6, g7, g8⟩, k0, k1⟩ := hCells.out w hSw; go_simp <;> with_reducible rfl)
          try simp only [Act.put, List.setIfInBounds_toArray, List.set_cons_zero, List.set_cons_succ]
          refine takeL 11 (v := ?_) rfl (by kernel_rfl) (by kernel_rfl) (by kernel_rfl) (fun _ _ _ h => h) (by rfl) (by assumption) ?_ ?_
          rotate_left
          · (intro w hSw; (try dsimp only at hSw); obtain ⟨⟨p0, p1, p2, p3, p4, p5, p6, p7, p8⟩, ⟨g0, g1, g2, g3, g4, g5, g6, g7, g8⟩, k0, k1⟩ := hCells.out w hSw; go_simp <;> with_reducible rfl)
          try simp only [Act.put, List.setIfInBounds_toArray, List.set_cons_zero, List.set_cons_succ]
          refine takeL 12 (v := ?_) rfl (by kernel_rfl) (by kernel_rfl) (by kernel_rfl) (fun _ _ _ h => h) (by rfl) (by assumption) ?_ ?_
          rotate_left
          · (intro w hSw; (try dsimp only at hSw); obtain ⟨⟨p0, p1, p2, p3, p4, p5, p6, p7, p8⟩, ⟨g0, g1, g2, g3, g4, g5, g6, g7, g8⟩, k0, k1⟩ := hCells.out w hSw; go_simp <;> with_reducible rfl)
          try simp only [Act.put, List.setIfInBounds_toArray, List.set_cons_zero, List.set_cons_succ]
          refine takeL 13 (v := ?_) rfl (by kernel_rfl) (by kernel_rfl) (by kernel_rfl) (fun _ _ _ h => h) (by rfl) (by assumption) ?_ ?_
          rotate_left
          · (intro w hSw; (try dsimp only at hSw); obtain ⟨⟨p0, p1, p2, p3, p4, p5, p6, p7, p8⟩, ⟨g0, g1, g2, g3, g4, g5, g6, g7, g8⟩, k0, k1⟩ := hCells.out w hSw; go_simp <;> with_reducible rfl)
          try simp only [Act.put, List.setIfInBounds_toArray, List.set_cons_zero, List.set_cons_succ]
          refine takeL 14 (v := ?_) rfl (by kernel_rfl) (by kernel_rfl) (by kernel_rfl) (fun _ _ _ h => h) (by rfl) (by assumption) ?_ ?_
          rotate_left
          · (intro w hSw; (try dsimp only at hSw); obtain ⟨⟨p0, p1, p2, p3, p4, p5, p6, p7, p8⟩, ⟨g0, g1, g2, g3, g4, g5, g6, g7, g8⟩, k0, k1⟩ := hCells.out w hSw; go_simp <;> with_reducible rfl)
          try simp only [Act.put, List.setIfInBounds_toArray, List.set_cons_zero, List.set_cons_succ]
          refine takeL 15 (v := ?_) rfl (by kernel_rfl) (by kernel_rfl) (by kernel_rfl) (fun _ _ _ h => h) (by rfl) (by assumption) ?_ ?_
          rotate_left
          · (intro w hSw; (try dsimp only at hSw); obtain ⟨⟨p0, p1, p2, p3, p4, p5, p6, p7, p8⟩, ⟨g0, g1, g2, g3, g4, g5, g6, g7, g8⟩, k0, k1⟩ := hCells.out w hSw; go_simp <;> with_reducible rfl)
          try simp only [Act.put, List.setIfInBounds_toArray, List.set_cons_zero, List.set_cons_succ]
          refine takeL 16 (v := ?_) rfl (by kernel_rfl) (by kernel_rfl) (by kernel_rfl) (fun _ _ _ h => h) (by rfl) (by assumption) ?_ ?_
          rotate_left
          · (intro w hSw; (try dsimp only at hSw); obtain ⟨⟨p0, p1, p2, p3, p4, p5, p6, p7, p8⟩, ⟨g0, g1, g2, g3, g4, g5, g6, g7, g8⟩, k0, k1⟩ := hCells.out w hSw; go_simp <;> with_reducible rfl)
          try simp only [Act.put, List.setIfInBounds_toArray, List.set_cons_zero, List.set_cons_succ]
          refine takeL 17 (v := ?_) rfl (by kernel_rfl) (by kernel_rfl) (by kernel_rfl) (fun _ _ _ h => h) (by rfl) (by assumption) ?_ ?_
          rotate_left
          · (intro w hSw; (try dsimp only at hSw); obtain ⟨⟨p0, p1, p2, p3, p4, p5, p6, p7, p8⟩, ⟨g0, g1, g2, g3, g4, g5, g6, g7, g8⟩, k0, k1⟩ := hCells.out w hSw; go_simp <;> with_reducible rfl)
          try simp only [Act.put, List.setIfInBounds_toArray, List.set_cons_zero, List.set_cons_succ]
          refine takeL 18 (v := ?_) rfl (by kernel_rfl) (by kernel_rfl) (by kernel_rfl) (fun _ _ _ h => h) (by rfl) (by assumption) ?_ ?_
          rotate_left
          · (intro w hSw; (try dsimp only at hSw); obtain ⟨⟨p0, p1, p2, p3, p4, p5, p6, p7, p8⟩, ⟨g0, g1, g2, g3, g4, g5, g6, g7, g8⟩, k0, k1⟩ := hCells.out w hSw; go_simp <;> with_reducible rfl)
          try simp only [Act.put, List.setIfInBounds_toArray, List.set_cons_zero, List.set_cons_succ]
          refine takeL 19 (v := ?_) rfl (by kernel_rfl) (by kernel_rfl) (by kernel_rfl) (fun _ _ _ h => h) (by rfl) (by assumption) ?_ ?_
          rotate_left
          · (intro w hSw; (try dsimp only at hSw); obtain ⟨⟨p0, p1, p2, p3, p4, p5, p6, p7, p8⟩, ⟨g0, g1, g2, g3, g4, g5, g6, g7, g8⟩, k0, k1⟩ := hCells.out w hSw; go_simp <;> with_reducible rfl)
          try simp only [Act.put, List.setIfInBounds_toArray, List.set_cons_zero, List.set_cons_succ]
          refine takeL 20 (v := ?_) rfl (by kernel_rfl) (by kernel_rfl) (by kernel_rfl) (fun _ _ _ h => h) (by rfl) (by assumption) ?_ ?_
          rotate_left
          · (intro w hSw; (try dsimp only at hSw); obtain ⟨⟨p0, p1, p2, p3, p4, p5, p6, p7, p8⟩, ⟨g0, g1, g2, g3, g4, g5, g6, g7, g8⟩, k0, k1⟩ := hCells.out w hSw; go_simp <;> with_reducible rfl)
          try simp only [Act.put, List.setIfInBounds_toArray, List.set_cons_zero, List.set_cons_succ]
          refine takeL 21 (v := ?_) rfl (by kernel_rfl) (by kernel_rfl) (by kernel_rfl) (fun _ _ _ h => h) (by rfl) (by assumption) ?_ ?_
          rotate_left
          · (intro w hSw; (try dsimp only at hSw); obtain ⟨⟨p0, p1, p2, p3, p4, p5, p6, p7, p8⟩, ⟨g0, g1, g2, g3, g4, g5, g6, g7, g8⟩, k0, k1⟩ := hCells.out w hSw; go_simp <;> with_reducible rfl)
          try simp only [Act.put, List.setIfInBounds_toArray, List.set_cons_zero, List.set_cons_succ]
          refine takeL 22 (v := ?_) rfl (by kernel_rfl) (by kernel_rfl) (by kernel_rfl) (fun _ _ _ h => h) (by rfl) (by assumption) ?_ ?_
          rotate_left
          · (intro w hSw; (try dsimp only at hSw); obtain ⟨⟨p0, p1, p2, p3, p4, p5, p6, p7, p8⟩, ⟨g0, g1, g2, g3, g4, g5, g6, g7, g8⟩, k0, k1⟩ := hCells.out w hSw; go_simp <;> with_reducible rfl)
          try simp only [Act.put, List.setIfInBounds_toArray, List.set_cons_zero, List.set_cons_succ]
          refine takeL 23 (v := ?_) rfl (by kernel_rfl) (by kernel_rfl) (by kernel_rfl) (fun _ _ _ h => h) (by rfl) (by assumption) ?_ ?_
          rotate_left
          · (intro w hSw; (try dsimp only at hSw); obtain ⟨⟨p0, p1, p2, p3, p4, p5, p6, p7, p8⟩, ⟨g0, g1, g2, g3, g4, g5, g6, g7, g8⟩, k0, k1⟩ := hCells.out w hSw; go_simp <;> with_reducible rfl)
          try simp only [Act.put, List.setIfInBounds_toArray, List.set_cons_zero, List.set_cons_succ]
          refine takeL 25 (v := ?_) rfl (by kernel_rfl) (by kernel_rfl) (by kernel_rfl) (fun _ _ _ h => h) (by rfl) (by assumption) ?_ ?_
          rotate_left
          · (intro w hSw; (try dsimp only at hSw); obtain ⟨⟨p0, p1, p2, p3, p4, p5, p6, p7, p8⟩, ⟨g0, g1, g2, g3, g4, g5, g6, g7, g8⟩, k0, k1⟩ := hCells.out w hSw; go_simp <;> with_reducible rfl)
          try simp only [Act.put, List.setIfInBounds_toArray, List.set_cons_zero, List.set_cons_succ]
          refine takeL 27 (v := ?_) rfl (by kernel_rfl) (by kernel_rfl) (by kernel_rfl) (fun _ _ _ h => h) (by rfl) (by assumption) ?_ ?_
          rotate_left
          · (intro w hSw; (try dsimp only at hSw); obtain ⟨⟨p0, p1, p2, p3, p4, p5, p6, p7, p8⟩, ⟨g0, g1, g2, g3, g4, g5, g6, g7, g8⟩, k0, k1⟩ := hCells.out w hSw; go_simp <;> with_reducible rfl)
          try simp only [Act.put, List.setIfInBounds_toArray, List.set_cons_zero, List.set_cons_succ]
          refine oneL 24 rfl (by kernel_rfl) (fun K hK => ?_)
          go_simp
          ((with_reducible refine hMv.mono ?_); rintro e w10 ⟨rfl, T12, hb10, _⟩; replace hbK := hb10; have hN := noted_N T12 hlen; rw [z6] at hN; clear hMv TW)
          refine hK.out _ _ ?_ (fun hHeld2 => ?_)
          · (try dsimp only)
            (first | exact hbK | (rw [hWq]; exact hbK))
          clear hK K hHeld
          have hHeld := hHeld2
          clear hHeld2
          try simp only [Act.put, List.setIfInBounds_toArray, List.set_cons_zero, List.set_cons_succ]
          refine oneL 26 rfl (by kernel_rfl) (fun K hK => ?_)
          go_simp
          ((with_reducible refine hN.mono ?_); rintro e w11 ⟨v11, rfl, o11, _, T13, hb11⟩; replace hbK := hbK.trans (hb11.mono hbK.size); have hCv := covers_any v11 s.noted (x6, x8 + 2) w11 hok.out.sbs (by have := hok.out.len; omega) hSB o11.own.pl; rw [hcc] at hCv; clear hN T12 o11)
          refine hK.out _ _ ?_ (fun hHeld2 => ?_)
          · (try dsimp only)
            (first | exact hbK | (rw [hWq]; exact hbK))
          clear hK K hHeld
          have hHeld := hHeld2
          clear hHeld2
          try simp only [Act.put, List.setIfInBounds_toArray, List.set_cons_zero, List.set_cons_succ]
          refine oneL 28 rfl (by kernel_rfl) (fun K hK => ?_)
          go_simp
          ((with_reducible refine hCv.mono ?_); rintro e w12 ⟨rfl, hb12⟩; replace hbK := hbK.trans (hb12.mono hbK.size); clear hCv T13)
          refine hK.out _ _ ?_ (fun hHeld2 => ?_)
          · (try dsimp only)
            (first | exact hbK | (rw [hWq]; exact hbK))
          clear hK K hHeld
          have hHeld := hHeld2
          clear hHeld2
          try simp only [Act.put, List.setIfInBounds_toArray, List.set_cons_zero, List.set_cons_succ]
          refine takeL 29 (v := ?_) rfl (by kernel_rfl) (by kernel_rfl) (by kernel_rfl) (fun _ _ _ h => h) (by rfl) (by assumption) ?_ ?_
          rotate_left
          · (intro w hSw; (try dsimp only at hSw); obtain ⟨⟨p0, p1, p2, p3, p4, p5, p6, p7, p8⟩, ⟨g0, g1, g2, g3, g4, g5, g6, g7, g8⟩, k0, k1⟩ := hCells.out w hSw; go_simp <;> with_reducible rfl)
          try simp only [Act.put, List.setIfInBounds_toArray, List.set_cons_zero, List.set_cons_succ]
          refine takeL 30 (v := ?_) rfl (by kernel_rfl) (by kernel_rfl) (by kernel_rfl) (fun _ _ _ h => h) (by rfl) (by assumption) ?_ ?_
          rotate_left
          · (intro w hSw; (try dsimp only at hSw); obtain ⟨⟨p0, p1, p2, p3, p4, p5, p6, p7, p8⟩, ⟨g0, g1, g2, g3, g4, g5, g6, g7, g8⟩, k0, k1⟩ := hCells.out w hSw; go_simp <;> with_reducible rfl)
          try simp only [Act.put, List.setIfInBounds_toArray, List.set_cons_zero, List.set_cons_succ]
          refine takeL 31 (v := ?_) rfl (by kernel_rfl) (by kernel_rfl) (by kernel_rfl) (fun _ _ _ h => h) (by rfl) (by assumption) ?_ ?_
          rotate_left
          · (intro w hSw; (try dsimp only at hSw); obtain ⟨⟨p0, p1, p2, p3, p4, p5, p6, p7, p8⟩, ⟨g0, g1, g2, g3, g4, g5, g6, g7, g8⟩, k0, k1⟩ := hCells.out w hSw; go_simp <;> with_reducible rfl)
          try simp only [Act.put, List.setIfInBounds_toArray, List.set_cons_zero, List.set_cons_succ]
          refine wpAnyH_done (by kernel_rfl) ?_ _
          go_wp2_with fail
          go_ret
          exact ⟨rfl, hb0h.out.trans ((hbW.trans (hbK.mono hbW.size)).mono (by omega))⟩
    · go_simp
      replace hR := hR.s5
      refine hK.out _ _ ?_ (fun hHeld2 hInv2 => ?_)
      · (try dsimp only)
        exact hR.bel
      clear hK K hHeld hInv
      have hHeld := hHeld2
      have hInv := hInv2
      clear hHeld2 hInv2
      try simp only [Act.put, List.setIfInBounds_toArray, List.set_cons_zero, List.set_cons_succ] at hInv ⊢
      refine oneS 2 hInv (by decide) rfl (by kernel_rfl) (fun K hK => ?_)
      rw [if_pos (by rfl)]
      obtain ⟨v', w', hrun, hR2⟩ := hR.s2 hv1 hz
      (try simp only [World.size_alloc] at hrun)
      refine wp_append_run _ _ _ _ rfl _ _ _ rfl rfl hrun ?_
      clear hrun hR
      have hR := hR2
      clear hR2
      refine hK.out _ _ ?_ (fun hHeld2 hInv2 => ?_)
      · (try dsimp only)
        exact hR.bel
      clear hK K hHeld hInv
      have hHeld := hHeld2
      have hInv := hInv2
      clear hHeld2 hInv2
      try simp only [Act.put, List.setIfInBounds_toArray, List.set_cons_zero, List.set_cons_succ] at hInv ⊢
      refine lastS 6 rfl (by decide) (by kernel_rfl) (fun K hK => ?_)
      rw [if_pos (by rfl)]
      obtain ⟨v6, w6, hrun, ho6, hb6⟩ := hR.last hz
      (try simp only [World.size_alloc] at hrun)
      refine wp_append_run _ _ _ _ rfl _ _ _ rfl rfl hrun ?_
      clear hrun
      refine hK.out _ _ ?_
      clear hK K
      try simp only [Act.put, List.setIfInBounds_toArray, List.set_cons_zero, List.set_cons_succ]
      refine lastS 7 rfl (by decide) (by kernel_rfl) (fun K hK => ?_)
      go_simp
      have hFw := few_any v6 _ w6 hol (ho6.el oE_len)
      (with_reducible refine hFw.mono ?_); rintro e w7 ⟨⟨t, rfl, ht⟩, hb7⟩
      refine hK.out _ _ ?_
      clear hK K
      try simp only [Act.put, List.setIfInBounds_toArray, List.set_cons_zero, List.set_cons_succ]
      refine lastS 8 rfl (by decide) (by kernel_rfl) (fun K hK => ?_)
      go_simp
      refine hK.out _ _ ?_
      clear hK K
      try simp only [Act.put, List.setIfInBounds_toArray, List.set_cons_zero, List.set_cons_succ]
      refine wpAnyS_done (by kernel_rfl) ?_ _
      have hb2w : Below w0.heap.size w0 w7 := hb1.trans ((hb6.trans (hb7.mono hb6.size)).mono hb1.size)
      clear hR hv1 hv0 ho6 hb6 hb7 hb1 hol
      cases t
      · go_wp2_with fail
        go_ret
        exact ⟨rfl, hb0h.out.trans (hb2w.mono (by omega))⟩
      obtain ⟨w2, hw2⟩ : ∃ w2, w7 = w2 := ⟨_, rfl⟩
      subst hw2
      obtain ⟨hFL0, hGF, hl39⟩ := few_last (ht rfl)
      have hFL := Lib.hid hFL0
      have hn39 : n ≤ 39 := by have := hnn.out; omega
      have hsz2 := hb2w.size
      clear ht hz hFL0 hl39
      go_wp2_with (first
        | (go_at_call 31; refine (new_N w7).mono ?_; rintro e w3 ⟨B, F, rfl, T0⟩))
      have hD0 := start_both T0
      obtain ⟨B2, hB2e⟩ : ∃ B2, w3.heap.size = B2 := ⟨_, rfl⟩
      rw [hB2e] at hD0 ⊢
      clear T0 hB2e
      go_loopw [9] (fun i wr => ∃ k : Nat, k ≤ n ∧ i = .int .i64 k ∧ DoP w7 B B2 k wr) (fun i _ => n + 1 - (intOf i).toNat)
      case atStart => exact ⟨0, Nat.zero_le _, rfl, hD0⟩
      case round =>
        clear hD0
        obtain ⟨k, hk, rfl, hD⟩ := hrel
        have hB := hb2w.trans (hD.bel.mono hsz2)
        by_cases hlt : k < n
        · obtain ⟨g, off, rfl, hcap, _, hg, hcl⟩ := hC.out wr k hB hlt
          have hlt' : (k : Int) < (n : Int) := by omega
          have hfo := fewO_at hFL.out (k := k) (by have := hnn.out; omega)
          generalize l.getD k default = o at *
          have hDo := do_any o hD (by omega) hfo
          obtain ⟨kd, ⟨fr, mn⟩, ⟨a1, a2, a3, a4, a5⟩, at_, a7, sz, a9⟩ := o
          have c0 : wr.cell? ⟨g, off + k * 12, none⟩ = some (.int .u8 (kd : Nat)) := hcl 0 (by omega)
          have c1 : wr.cell? ⟨g, off + k * 12 + 1, none⟩ = some (.int .i64 fr) := hcl 1 (by omega)
          have c2 : wr.cell? ⟨g, off + k * 12 + 2, none⟩ = some (.int .i64 mn) := hcl 2 (by omega)
          have c3 : wr.cell? ⟨g, off + k * 12 + 3, none⟩ = some (.int .i64 a1) := hcl 3 (by omega)
          have c4 : wr.cell? ⟨g, off + k * 12 + 4, none⟩ = some (.int .i64 a2) := hcl 4 (by omega)
          have c5 : wr.cell? ⟨g, off + k * 12 + 5, none⟩ = some (.int .i64 a3) := hcl 5 (by omega)
          have c6 : wr.cell? ⟨g, off + k * 12 + 6, none⟩ = some (.int .i64 a4) := hcl 6 (by omega)
          have c7 : wr.cell? ⟨g, off + k * 12 + 7, none⟩ = some (.bool a5) := hcl 7 (by omega)
          have c8 : wr.cell? ⟨g, off + k * 12 + 8, none⟩ = some (.int .i64 at_) := hcl 8 (by omega)
          have c9 : wr.cell? ⟨g, off + k * 12 + 9, none⟩ = some (.int .i64 a7) := hcl 9 (by omega)
          have c10 : wr.cell? ⟨g, off + k * 12 + 10, none⟩ = some (.int .i64 sz) := hcl 10 (by omega)
          have c11 : wr.cell? ⟨g, off + k * 12 + 11, none⟩ = some (.int .u64 a9) := hcl 11 (by omega)
          simp only [oE, fE] at hDo
          clear hcl hfo
          go_wp2_with (go_at_call 32; refine hDo.mono ?_; rintro e w4 ⟨rfl, hD4⟩; clear hDo)
          go_roundw
          case rel => exact ⟨k + 1, by omega, by go_num, hD4⟩
          case measure => simp [intOf]; omega
        · obtain rfl : k = n := by omega
          obtain ⟨F1, s, G, r, hbn, hr⟩ := hD
          have hT := hbn.tx
          obtain ⟨s1, s2, s3, e1, e2, e3, g1, g3, ⟨z1, z2⟩, z3, z4, z5, z6⟩ := hr.fresh_all (by omega) hGF
          have hin := hGF.inn
          have hGF2 := hGF
          obtain ⟨f5, f6, f7, f8, _⟩ := hGF2
          simp only [] at f5 f6 f7 f8
          have hSB : SB (x6, x8 + 2) := by unfold SB; simp only []; omega
          have hx6 : I64 x6 := ⟨by omega, by omega⟩
          have hok := Lib.hid hr.ok
          have hlen : s3.noted.length ≤ 1000000 := by rw [z6]; have := hr.ok.len; omega
          have hsn : s.n ≤ 1000000 := by have := hr.n; omega
          replace hin : ∀ z, SIn (x6, x8 + 2) z → 0 ≤ z ∧ z < 300 := hin
          replace z1 : covS (mayL s1) (x6, x8 + 2) = true := z1
          replace z2 : missS (mayL s1) (x6, x8 + 2) = [] := z2
          replace z5 : covS (mayL s3) (x6, x8 + 2) = covS s.noted (x6, x8 + 2) := z5
          obtain ⟨cc, hcc⟩ : ∃ c, covS s.noted (x6, x8 + 2) = c := ⟨_, rfl⟩
          rw [hcc] at z5
          have tcc : (cc == cc) = true := by simp
          have hAl := (Below.refl _ wr).alloc (Nat.le_refl _) (.cells #[.int .i64 x6, .int .i64 (x8 + 2)] (63 : Nat))
          have TA := hT.keep hAl
          have qA : Ck (wr.alloc (.cells #[.int .i64 x6, .int .i64 (x8 + 2)] (63 : Nat))) F1 wr.heap.size (.cells #[.int .i64 x6, .int .i64 (x8 + 2)] (63 : Nat) (0, 0)) := Ck.new hT.tx.lt _
          have hMk := make_N TA ((x1, x2, x3, x4, x5), x6, x7, x8, x9) hx6 hsn
          rw [← e1] at hMk
          simp only [fV, fE] at hMk
          have hMy := Lib.hid (fun (w' : World) (h : TxN w7 w' B F1 s1) => may_N h g1 hSB)
          have hNt := Lib.hid (fun (w' : World) (h : TxN w7 w' B F1 s1) => note_N h g1 hSB hin)
          have hUn := Lib.hid (fun (w' : World) (F' : Nat → Prop) (h : TxN w7 w' B F' s1) => unmake_N h hx6 z3)
          have hUn2 := Lib.hid (fun (w' : World) (F' : Nat → Prop) (h : TxN w7 w' B F' s2) => unmake_N h hx6 z4)
          have hMy2 := Lib.hid (fun (w' : World) (F' : Nat → Prop) (h : TxN w7 w' B F' s3) => may_N h g3 hSB)
          rw [z1] at hMy
          rw [z2] at hNt
          rw [← e2] at hUn
          rw [← e3] at hUn2
          rw [z5] at hMy2
          simp only [Option.getD_some, Option.getD_none, Option.isSome_some, Option.isSome_none, fV, fE, fx0] at hUn hUn2
          have hlx : w.heap.size < wr.heap.size := by have := hB.size; omega
          obtain ⟨p0, p1, p2, p3, p4, p5, p6, p7, p8⟩ := hCx.out wr hB
          clear hr hbn hT e1 e2 e3 g1 g3 z1 z2 z3 z4 z5 hGF hC hFL
          go_wp2_with (first
            | (go_at_call 40; refine hMk.mono ?_; rintro e w4 ⟨rfl, T4, S4⟩
               have q4 := qA.go S4
               obtain ⟨k0, k1⟩ := blk2 q4.blk
               obtain ⟨p0, p1, p2, p3, p4, p5, p6, p7, p8⟩ := hCx.out w4 (hb2w.trans (T4.bel.mono hsz2))
               have h4 := hMy.out w4 T4
               clear hMk qA TA S4)
            | (go_at_call 34; refine h4.mono ?_; rintro e w5 ⟨rfl, T5, hb5, _⟩
               have q5 := q4.keep hb5
               obtain ⟨k0, k1⟩ := blk2 q5.blk
               obtain ⟨p0, p1, p2, p3, p4, p5, p6, p7, p8⟩ := hCx.out w5 (hb2w.trans (T5.bel.mono hsz2))
               have h5 := hNt.out w5 T5
               clear h4 q4 T4 hb5 hMy)
            | (go_at_call 35; refine h5.mono ?_; rintro e w6 ⟨v6, F6, rfl, o6, T6, S6, _, _⟩
               replace T6 : TxN w7 w6 B F6 s1 := T6
               have q6 := q5.go S6
               obtain ⟨A6, cap6, rfl, _⟩ := ((ownSp_iff.1 o6.own).el spE_len).form (n := 0) rfl
               obtain ⟨k0, k1⟩ := blk2 q6.blk
               obtain ⟨p0, p1, p2, p3, p4, p5, p6, p7, p8⟩ := hCx.out w6 (hb2w.trans (T6.bel.mono hsz2))
               have h6 := hUn.out w6 F6 T6
               clear h5 q5 T5 S6 o6 hNt)
            | (go_at_call 41; refine h6.mono ?_; rintro e w8 ⟨rfl, T8, S8⟩
               have hA8 := (Below.refl _ w8).alloc (Nat.le_refl _) (.cells #[.int .i64 x1, .int .i64 x2, .int .i64 x3, .int .i64 x4, .bool x5, .int .i64 x6, .int .i64 x7, .int .i64 x8, .int .u64 x9] (69 : Nat))
               have q8 := (q6.go S8).keep hA8
               have T9 := T8.keep hA8
               have r9 : Ck (w8.alloc (.cells #[.int .i64 x1, .int .i64 x2, .int .i64 x3, .int .i64 x4, .bool x5, .int .i64 x6, .int .i64 x7, .int .i64 x8, .int .u64 x9] (69 : Nat))) F6 w8.heap.size (.cells #[.int .i64 x1, .int .i64 x2, .int .i64 x3, .int .i64 x4, .bool x5, .int .i64 x6, .int .i64 x7, .int .i64 x8, .int .u64 x9] (69 : Nat) (0, 0)) := Ck.new T8.tx.lt _
               have hl8 : w.heap.size < w8.heap.size := by have := (hb2w.trans (T8.bel.mono hsz2)).size; omega
               obtain ⟨p0, p1, p2, p3, p4, p5, p6, p7, p8⟩ := hCx.out w8 (hb2w.trans (T8.bel.mono hsz2))
               have h8 := hUn2.out _ F6 T9
               clear h6 q6 T6 S8 hUn T8)
            | (go_at_call 41; refine h8.mono ?_; rintro e w9 ⟨rfl, T10, S10⟩
               have hA9 := (Below.refl _ w9).alloc (Nat.le_refl _) (.cells #[.int .i64 0, .int .i64 0, .int .i64 0, .int .i64 0, .bool false, .int .i64 0, .int .i64 0, .int .i64 0, .int .u64 0] (69 : Nat))
               have q9 := (q8.go S10).keep hA9
               have r10 := (r9.go S10).keep hA9
               have T11 := T10.keep hA9
               clear h8 q8 r9 T9 T10 S10 hUn2 p0 p1 p2 p3 p4 p5 p6 p7 p8 k0 k1))
          obtain ⟨W, hWq⟩ : ∃ W, (w9.alloc (.cells #[.int .i64 0, .int .i64 0, .int .i64 0, .int .i64 0, .bool false, .int .i64 0, .int .i64 0, .int .i64 0, .int .u64 0] (69 : Nat))).drew = W := ⟨_, rfl⟩
          have TW : TxN w7 W B F6 s3 := by rw [← hWq]; exact T11.keep (Below.refl _ _).drew
          have qW := q9.keep (show Below _ _ W from by rw [← hWq]; exact (Below.refl _ _).drew)
          have rW := r10.keep (show Below _ _ W from by rw [← hWq]; exact (Below.refl _ _).drew)
          have hbW : Below w0.heap.size w0 W := hb2w.trans (TW.bel.mono hsz2)
          have hMv := hMy2.out W F6 TW
          have hCells := Lib.hid (fun (w' : World) (h : Below W.heap.size W w') => show (w'.cell? ⟨w.heap.size, 0, none⟩ = some (.int .i64 x1) ∧ w'.cell? ⟨w.heap.size, 1, none⟩ = some (.int .i64 x2) ∧ w'.cell? ⟨w.heap.size, 2, none⟩ = some (.int .i64 x3) ∧ w'.cell? ⟨w.heap.size, 3, none⟩ = some (.int .i64 x4) ∧ w'.cell? ⟨w.heap.size, 4, none⟩ = some (.bool x5) ∧ w'.cell? ⟨w.heap.size, 5, none⟩ = some (.int .i64 x6) ∧ w'.cell? ⟨w.heap.size, 6, none⟩ = some (.int .i64 x7) ∧ w'.cell? ⟨w.heap.size, 7, none⟩ = some (.int .i64 x8) ∧ w'.cell? ⟨w.heap.size, 8, none⟩ = some (.int .u64 x9)) ∧ (w'.cell? ⟨w8.heap.size, 0, none⟩ = some (.int .i64 x1) ∧ w'.cell? ⟨w8.heap.size, 1, none⟩ = some (.int .i64 x2) ∧ w'.cell? ⟨w8.heap.size, 2, none⟩ = some (.int .i64 x3) ∧ w'.cell? ⟨w8.heap.size, 3, none⟩ = some (.int .i64 x4) ∧ w'.cell? ⟨w8.heap.size, 4, none⟩ = some (.bool x5) ∧ w'.cell? ⟨w8.heap.size, 5, none⟩ = some (.int .i64 x6) ∧ w'.cell? ⟨w8.heap.size, 6, none⟩ = some (.int .i64 x7) ∧ w'.cell? ⟨w8.heap.size, 7, none⟩ = some (.int .i64 x8) ∧ w'.cell? ⟨w8.heap.size, 8, none⟩ = some (.int .u64 x9)) ∧ (w'.cell? ⟨wr.heap.size, 0, none⟩ = some (.int .i64 x6) ∧ w'.cell? ⟨wr.heap.size, 1, none⟩ = some (.int .i64 (x8 + 2))) from
            ⟨hCx.out w' (hbW.trans (h.mono hbW.size)), (blk9 (rW.keep h).blk).1, blk2 (qW.keep h).blk⟩)
          have hbK := Below.refl W.heap.size W
          clear T11 q9 r10 qW rW hMy2
          refine wp_region_held_drew (S := (fun w' => Below W.heap.size W w')) (by kernel_rfl) ?_ (fun hHeld => ?_)
          · (try dsimp only)
            (first | exact hbK | (rw [hWq]; exact hbK))
          rw [hWq]
          clear hWq
          refine takeL 0 (v := ?_) rfl (by kernel_rfl) (by kernel_rfl) (by kernel_rfl) (fun _ _ _ h => h) (by rfl) (by assumption) ?_ ?_
          rotate_left
          · (intro w hSw; (try dsimp only at hSw); obtain ⟨⟨p0, p1, p2, p3, p4, p5, p6, p7, p8⟩, ⟨g0, g1, g2, g3, g4, g5, g6, g7, g8⟩, k0, k1⟩ := hCells.out w hSw; go_simp <;> with_reducible rfl)
          try simp only [Act.put, List.setIfInBounds_toArray, List.set_cons_zero, List.set_cons_succ]
          refine takeL 1 (v := ?_) rfl (by kernel_rfl) (by kernel_rfl) (by kernel_rfl) (fun _ _ _ h => h) (by rfl) (by assumption) ?_ ?_
          rotate_left
          · (intro w hSw; (try dsimp only at hSw); obtain ⟨⟨p0, p1, p2, p3, p4, p5, p6, p7, p8⟩, ⟨g0, g1, g2, g3, g4, g5, g6, g7, g8⟩, k0, k1⟩ := hCells.out w hSw; go_simp <;> with_reducible rfl)
          try simp only [Act.put, List.setIfInBounds_toArray, List.set_cons_zero, List.set_cons_succ]
          refine takeL 2 (v := ?_) rfl (by kernel_rfl) (by kernel_rfl) (by kernel_rfl) (fun _ _ _ h => h) (by rfl) (by assumption) ?_ ?_
          rotate_left
          · (intro w hSw; (try dsimp only at hSw); obtain ⟨⟨p0, p1, p2, p3, p4, p5, p6, p7, p8⟩, ⟨g0, g1, g2, g3, g4, g5, g6, g7, g8⟩, k0, k1⟩ := hCells.out w hSw; go_simp <;> with_reducible rfl)
          try simp only [Act.put, List.setIfInBounds_toArray, List.set_cons_zero, List.set_cons_succ]
          refine takeL 3 (v := ?_) rfl (by kernel_rfl) (by kernel_rfl) (by kernel_rfl) (fun _ _ _ h => h) (by rfl) (by assumption) ?_ ?_
          rotate_left
          · (intro w hSw; (try dsimp only at hSw); obtain ⟨⟨p0, p1, p2, p3, p4, p5, p6, p7, p8⟩, ⟨g0, g1, g2, g3, g4, g5, g6, g7, g8⟩, k0, k1⟩ := hCells.out w hSw; go_simp <;> with_reducible rfl)
          try simp only [Act.put, List.setIfInBounds_toArray, List.set_cons_zero, List.set_cons_succ]
          refine takeL 4 (v := ?_) rfl (by kernel_rfl) (by kernel_rfl) (by kernel_rfl) (fun _ _ _ h => h) (by rfl) (by assumption) ?_ ?_
          rotate_left
          · (intro w hSw; (try dsimp only at hSw); obtain ⟨⟨p0, p1, p2, p3, p4, p5, p6, p7, p8⟩, ⟨g0, g1, g2, g3, g4, g5, g6, g7, g8⟩, k0, k1⟩ := hCells.out w hSw; go_simp <;> with_reducible rfl)
          try simp only [Act.put, List.setIfInBounds_toArray, List.set_cons_zero, List.set_cons_succ]
          refine takeL 5 (v := ?_) rfl (by kernel_rfl) (by kernel_rfl) (by kernel_rfl) (fun _ _ _ h => h) (by rfl) (by assumption) ?_ ?_
          rotate_left
          · (intro w hSw; (try dsimp only at hSw); obtain ⟨⟨p0, p1, p2, p3, p4, p5, p6, p7, p8⟩, ⟨g0, g1, g2, g3, g4, g5, g6, g7, g8⟩, k0, k1⟩ := hCells.out w hSw; go_simp <;> with_reducible rfl)
          try simp only [Act.put, List.setIfInBounds_toArray, List.set_cons_zero, List.set_cons_succ]
          refine takeL 6 (v := ?_) rfl (by kernel_rfl) (by kernel_rfl) (by kernel_rfl) (fun _ _ _ h => h) (by rfl) (by assumption) ?_ ?_
          rotate_left
          · (intro w hSw; (try dsimp only at hSw); obtain ⟨⟨p0, p1, p2, p3, p4, p5, p6, p7, p8⟩, ⟨g0, g1, g2, g3, g4, g5, g6, g7, g8⟩, k0, k1⟩ := hCells.out w hSw; go_simp <;> with_reducible rfl)
          try simp only [Act.put, List.setIfInBounds_toArray, List.set_cons_zero, List.set_cons_succ]
          refine takeL 7 (v := ?_) rfl (by kernel_rfl) (by kernel_rfl) (by kernel_rfl) (fun _ _ _ h => h) (by rfl) (by assumption) ?_ ?_
          rotate_left
          · (intro w hSw; (try dsimp only at hSw); obtain ⟨⟨p0, p1, p2, p3, p4, p5, p6, p7, p8⟩, ⟨g0, g1, g2, g3, g4, g5, g6, g7, g8⟩, k0, k1⟩ := hCells.out w hSw; go_simp <;> with_reducible rfl)
          try simp only [Act.put, List.setIfInBounds_toArray, List.set_cons_zero, List.set_cons_succ]
          refine takeL 8 (v := ?_) rfl (by kernel_rfl) (by kernel_rfl) (by kernel_rfl) (fun _ _ _ h => h) (by rfl) (by assumption) ?_ ?_
          rotate_left
          · (intro w hSw; (try dsimp only at hSw); obtain ⟨⟨p0, p1, p2, p3, p4, p5, p6, p7, p8⟩, ⟨g0, g1, g2, g3, g4, g5, g6, g7, g8⟩, k0, k1⟩ := hCells.out w hSw; go_simp <;> with_reducible rfl)
          try simp only [Act.put, List.setIfInBounds_toArray, List.set_cons_zero, List.set_cons_succ]
          refine takeL 9 (v := ?_) rfl (by kernel_rfl) (by kernel_rfl) (by kernel_rfl) (fun _ _ _ h => h) (by rfl) (by assumption) ?_ ?_
          rotate_left
          · (intro w hSw; (try dsimp only at hSw); obtain ⟨⟨p0, p1, p2, p3, p4, p5, p6, p7, p8⟩, ⟨g0, g1, g2, g3, g4, g5, g6, g7, g8⟩, k0, k1⟩ := hCells.out w hSw; go_simp <;> with_reducible rfl)
          try simp only [Act.put, List.setIfInBounds_toArray, List.set_cons_zero, List.set_cons_succ]
          refine takeL 10 (v := ?_) rfl (by kernel_rfl) (by kernel_rfl) (by kernel_rfl) (fun _ _ _ h => h) (by rfl) (by assumption) ?_ ?_
          rotate_left
          · (intro w hSw; (try dsimp only at hSw); obtain ⟨⟨p0, p1, p2, p3, p4, p5, p6, p7, p8⟩, ⟨g0, g1, g2, g3, g4, g5, g6, g7, g8⟩, k0, k1⟩ := hCells.out w hSw; go_simp <;> with_reducible rfl)
          try simp only [Act.put, List.setIfInBounds_toArray, List.set_cons_zero, List.set_cons_succ]
          refine takeL 11 (v := ?_) rfl (by kernel_rfl) (by kernel_rfl) (by kernel_rfl) (fun _ _ _ h => h) (by rfl) (by assumption) ?_ ?_
          rotate_left
          · (intro w hSw; (try dsimp only at hSw); obtain ⟨⟨p0, p1, p2, p3, p4, p5, p6, p7, p8⟩, ⟨g0, g1, g2, g3, g4, g5, g6, g7, g8⟩, k0, k1⟩ := hCells.out w hSw; go_simp <;> with_reducible rfl)
          try simp only [Act.put, List.setIfInBounds_toArray, List.set_cons_zero, List.set_cons_succ]
          refine takeL 12 (v := ?_) rfl (by kernel_rfl) (by kernel_rfl) (by kernel_rfl) (fun _ _ _ h => h) (by rfl) (by assumption) ?_ ?_
          rotate_left
          · (intro w hSw; (try dsimp only at hSw); obtain ⟨⟨p0, p1, p2, p3, p4, p5, p6, p7, p8⟩, ⟨g0, g1, g2, g3, g4, g5, g6, g7, g8⟩, k0, k1⟩ := hCells.out w hSw; go_simp <;> with_reducible rfl)
          try simp only [Act.put, List.setIfInBounds_toArray, List.set_cons_zero, List.set_cons_succ]
          refine takeL 13 (v := ?_) rfl (by kernel_rfl) (by kernel_rfl) (by kernel_rfl) (fun _ _ _ h => h) (by rfl) (by assumption) ?_ ?_
          rotate_left
          · (intro w hSw; (try dsimp only at hSw); obtain ⟨⟨p0, p1, p2, p3, p4, p5, p6, p7, p8⟩, ⟨g0, g1, g2, g3, g4, g5, g6, g7, g8⟩, k0, k1⟩ := hCells.out w hSw; go_simp <;> with_reducible rfl)
          try simp only [Act.put, List.setIfInBounds_toArray, List.set_cons_zero, List.set_cons_succ]
          refine takeL 14 (v := ?_) rfl (by kernel_rfl) (by kernel_rfl) (by kernel_rfl) (fun _ _ _ h => h) (by rfl) (by assumption) ?_ ?_
          rotate_left
          · (intro w hSw; (try dsimp only at hSw); obtain ⟨⟨p0, p1, p2, p3, p4, p5, p6, p7, p8⟩, ⟨g0, g1, g2, g3, g4, g5, g6, g7, g8⟩, k0, k1⟩ := hCells.out w hSw; go_simp <;> with_reducible rfl)
          try simp only [Act.put, List.setIfInBounds_toArray, List.set_cons_zero, List.set_cons_succ]
          refine takeL 15 (v := ?_) rfl (by kernel_rfl) (by kernel_rfl) (by kernel_rfl) (fun _ _ _ h => h) (by rfl) (by assumption) ?_ ?_
          rotate_left
          · (intro w hSw; (try dsimp only at hSw); obtain ⟨⟨p0, p1, p2, p3, p4, p5, p6, p7, p8⟩, ⟨g0, g1, g2, g3, g4, g5, g6, g7, g8⟩, k0, k1⟩ := hCells.out w hSw; go_simp <;> with_reducible rfl)
          try simp only [Act.put, List.setIfInBounds_toArray, List.set_cons_zero, List.set_cons_succ]
          refine takeL 16 (v := ?_) rfl (by kernel_rfl) (by kernel_rfl) (by kernel_rfl) (fun _ _ _ h => h) (by rfl) (by assumption) ?_ ?_
          rotate_left
          · (intro w hSw; (try dsimp only at hSw); obtain ⟨⟨p0, p1, p2, p3, p4, p5, p6, p7, p8⟩, ⟨g0, g1, g2, g3, g4, g5, g6, g7, g8⟩, k0, k1⟩ := hCells.out w hSw; go_simp <;> with_reducible rfl)
          try simp only [Act.put, List.setIfInBounds_toArray, List.set_cons_zero, List.set_cons_succ]
          refine takeL 17 (v := ?_) rfl (by kernel_rfl) (by kernel_rfl) (by kernel_rfl) (fun _ _ _ h => h) (by rfl) (by assumption) ?_ ?_
          rotate_left
          · (intro w hSw; (try dsimp only at hSw); obtain ⟨⟨p0, p1, p2, p3, p4, p5, p6, p7, p8⟩, ⟨g0, g1, g2, g3, g4, g5, g6, g7, g8⟩, k0, k1⟩ := hCells.out w hSw; go_simp <;> with_reducible rfl)
          try simp only [Act.put, List.setIfInBounds_toArray, List.set_cons_zero, List.set_cons_succ]
          refine takeL 18 (v := ?_) rfl (by kernel_rfl) (by kernel_rfl) (by kernel_rfl) (fun _ _ _ h => h) (by rfl) (by assumption) ?_ ?_
          rotate_left
          · (intro w hSw; (try dsimp only at hSw); obtain ⟨⟨p0, p1, p2, p3, p4, p5, p6, p7, p8⟩, ⟨g0, g1, g2, g3, g4, g5, g6, g7, g8⟩, k0, k1⟩ := hCells.out w hSw; go_simp <;> with_reducible rfl)
          try simp only [Act.put, List.setIfInBounds_toArray, List.set_cons_zero, List.set_cons_succ]
          refine takeL 19 (v := ?_) rfl (by kernel_rfl) (by kernel_rfl) (by kernel_rfl) (fun _ _ _ h => h) (by rfl) (by assumption) ?_ ?_
          rotate_left
          · (intro w hSw; (try dsimp only at hSw); obtain ⟨⟨p0, p1, p2, p3, p4, p5, p6, p7, p8⟩, ⟨g0, g1, g2, g3, g4, g5, g6, g7, g8⟩, k0, k1⟩ := hCells.out w hSw; go_simp <;> with_reducible rfl)
          try simp only [Act.put, List.setIfInBounds_toArray, List.set_cons_zero, List.set_cons_succ]
          refine takeL 20 (v := ?_) rfl (by kernel_rfl) (by kernel_rfl) (by kernel_rfl) (fun _ _ _ h => h) (by rfl) (by assumption) ?_ ?_
          rotate_left
          · (intro w hSw; (try dsimp only at hSw); obtain ⟨⟨p0, p1, p2, p3, p4, p5, p6, p7, p8⟩, ⟨g0, g1, g2, g3, g4, g5, g6, g7, g8⟩, k0, k1⟩ := hCells.out w hSw; go_simp <;> with_reducible rfl)
          try simp only [Act.put, List.setIfInBounds_toArray, List.set_cons_zero, List.set_cons_succ]
          refine takeL 21 (v := ?_) rfl (by kernel_rfl) (by kernel_rfl) (by kernel_rfl) (fun _ _ _ h => h) (by rfl) (by assumption) ?_ ?_
          rotate_left
          · (intro w hSw; (try dsimp only at hSw); obtain ⟨⟨p0, p1, p2, p3, p4, p5, p6, p7, p8⟩, ⟨g0, g1, g2, g3, g4, g5, g6, g7, g8⟩, k0, k1⟩ := hCells.out w hSw; go_simp <;> with_reducible rfl)
          try simp only [Act.put, List.setIfInBounds_toArray, List.set_cons_zero, List.set_cons_succ]
          refine takeL 22 (v := ?_) rfl (by kernel_rfl) (by kernel_rfl) (by kernel_rfl) (fun _ _ _ h => h) (by rfl) (by assumption) ?_ ?_
          rotate_left
          · (intro w hSw; (try dsimp only at hSw); obtain ⟨⟨p0, p1, p2, p3, p4, p5, p6, p7, p8⟩, ⟨g0, g1, g2, g3, g4, g5, g6, g7, g8⟩, k0, k1⟩ := hCells.out w hSw; go_simp <;> with_reducible rfl)
          try simp only [Act.put, List.setIfInBounds_toArray, List.set_cons_zero, List.set_cons_succ]
          refine takeL 23 (v := ?_) rfl (by kernel_rfl) (by kernel_rfl) (by kernel_rfl) (fun _ _ _ h => h) (by rfl) (by assumption) ?_ ?_
          rotate_left
          · (intro w hSw; (try dsimp only at hSw); obtain ⟨⟨p0, p1, p2, p3, p4, p5, p6, p7, p8⟩, ⟨g0, g1, g2, g3, g4, g5, g6, g7, g8⟩, k0, k1⟩ := hCells.out w hSw; go_simp <;> with_reducible rfl)
          try simp only [Act.put, List.setIfInBounds_toArray, List.set_cons_zero, List.set_cons_succ]
          refine takeL 25 (v := ?_) rfl (by kernel_rfl) (by kernel_rfl) (by kernel_rfl) (fun _ _ _ h => h) (by rfl) (by assumption) ?_ ?_
          rotate_left
          · (intro w hSw; (try dsimp only at hSw); obtain ⟨⟨p0, p1, p2, p3, p4, p5, p6, p7, p8⟩, ⟨g0, g1, g2, g3, g4, g5, g6, g7, g8⟩, k0, k1⟩ := hCells.out w hSw; go_simp <;> with_reducible rfl)
          try simp only [Act.put, List.setIfInBounds_toArray, List.set_cons_zero, List.set_cons_succ]
          refine takeL 27 (v := ?_) rfl (by kernel_rfl) (by kernel_rfl) (by kernel_rfl) (fun _ _ _ h => h) (by rfl) (by assumption) ?_ ?_
          rotate_left
          · (intro w hSw; (try dsimp only at hSw); obtain ⟨⟨p0, p1, p2, p3, p4, p5, p6, p7, p8⟩, ⟨g0, g1, g2, g3, g4, g5, g6, g7, g8⟩, k0, k1⟩ := hCells.out w hSw; go_simp <;> with_reducible rfl)
          try simp only [Act.put, List.setIfInBounds_toArray, List.set_cons_zero, List.set_cons_succ]
          refine oneL 24 rfl (by kernel_rfl) (fun K hK => ?_)
          go_simp
          ((with_reducible refine hMv.mono ?_); rintro e w10 ⟨rfl, T12, hb10, _⟩; replace hbK := hb10; have hN := noted_N T12 hlen; rw [z6] at hN; clear hMv TW)
          refine hK.out _ _ ?_ (fun hHeld2 => ?_)
          · (try dsimp only)
            (first | exact hbK | (rw [hWq]; exact hbK))
          clear hK K hHeld
          have hHeld := hHeld2
          clear hHeld2
          try simp only [Act.put, List.setIfInBounds_toArray, List.set_cons_zero, List.set_cons_succ]
          refine oneL 26 rfl (by kernel_rfl) (fun K hK => ?_)
          go_simp
          ((with_reducible refine hN.mono ?_); rintro e w11 ⟨v11, rfl, o11, _, T13, hb11⟩; replace hbK := hbK.trans (hb11.mono hbK.size); have hCv := covers_any v11 s.noted (x6, x8 + 2) w11 hok.out.sbs (by have := hok.out.len; omega) hSB o11.own.pl; rw [hcc] at hCv; clear hN T12 o11)
          refine hK.out _ _ ?_ (fun hHeld2 => ?_)
          · (try dsimp only)
            (first | exact hbK | (rw [hWq]; exact hbK))
          clear hK K hHeld
          have hHeld := hHeld2
          clear hHeld2
          try simp only [Act.put, List.setIfInBounds_toArray, List.set_cons_zero, List.set_cons_succ]
          refine oneL 28 rfl (by kernel_rfl) (fun K hK => ?_)
          go_simp
          ((with_reducible refine hCv.mono ?_); rintro e w12 ⟨rfl, hb12⟩; replace hbK := hbK.trans (hb12.mono hbK.size); clear hCv T13)
          refine hK.out _ _ ?_ (fun hHeld2 => ?_)
          · (try dsimp only)
            (first | exact hbK | (rw [hWq]; exact hbK))
          clear hK K hHeld
          have hHeld := hHeld2
          clear hHeld2
          try simp only [Act.put, List.setIfInBounds_toArray, List.set_cons_zero, List.set_cons_succ]
          refine takeL 29 (v := ?_) rfl (by kernel_rfl) (by kernel_rfl) (by kernel_rfl) (fun _ _ _ h => h) (by rfl) (by assumption) ?_ ?_
          rotate_left
          · (intro w hSw; (try dsimp only at hSw); obtain ⟨⟨p0, p1, p2, p3, p4, p5, p6, p7, p8⟩, ⟨g0, g1, g2, g3, g4, g5, g6, g7, g8⟩, k0, k1⟩ := hCells.out w hSw; go_simp <;> with_reducible rfl)
          try simp only [Act.put, List.setIfInBounds_toArray, List.set_cons_zero, List.set_cons_succ]
          refine takeL 30 (v := ?_) rfl (by kernel_rfl) (by kernel_rfl) (by kernel_rfl) (fun _ _ _ h => h) (by rfl) (by assumption) ?_ ?_
          rotate_left
          · (intro w hSw; (try dsimp only at hSw); obtain ⟨⟨p0, p1, p2, p3, p4, p5, p6, p7, p8⟩, ⟨g0, g1, g2, g3, g4, g5, g6, g7, g8⟩, k0, k1⟩ := hCells.out w hSw; go_simp <;> with_reducible rfl)
          try simp only [Act.put, List.setIfInBounds_toArray, List.set_cons_zero, List.set_cons_succ]
          refine takeL 31 (v := ?_) rfl (by kernel_rfl) (by kernel_rfl) (by kernel_rfl) (fun _ _ _ h => h) (by rfl) (by assumption) ?_ ?_
          rotate_left
          · (intro w hSw; (try dsimp only at hSw); obtain ⟨⟨p0, p1, p2, p3, p4, p5, p6, p7, p8⟩, ⟨g0, g1, g2, g3, g4, g5, g6, g7, g8⟩, k0, k1⟩ := hCells.out w hSw; go_simp <;> with_reducible rfl)
          try simp only [Act.put, List.setIfInBounds_toArray, List.set_cons_zero, List.set_cons_succ]
          refine wpAnyH_done (by kernel_rfl) ?_ _
          go_wp2_with fail
          go_ret
          exact ⟨rfl, hb0h.out.trans ((hbW.trans (hbK.mono hbW.size)).mono (by omega))⟩
  · go_simp
    replace hR := hR.s5
    refine hK.out _ _ ?_ (fun hHeld2 hInv2 => ?_)
    · (try dsimp only)
      exact hR.bel
    clear hK K hHeld hInv
    have hHeld := hHeld2
    have hInv := hInv2
    clear hHeld2 hInv2
    try simp only [Act.put, List.setIfInBounds_toArray, List.set_cons_zero, List.set_cons_succ] at hInv ⊢
    refine oneS 0 hInv (by decide) rfl (by kernel_rfl) (fun K hK => ?_)
    go_simp
    replace hR := hR.s0
    refine hK.out _ _ ?_ (fun hHeld2 hInv2 => ?_)
    · (try dsimp only)
      exact hR.bel
    clear hK K hHeld hInv
    have hHeld := hHeld2
    have hInv := hInv2
    clear hHeld2 hInv2
    try simp only [Act.put, List.setIfInBounds_toArray, List.set_cons_zero, List.set_cons_succ] at hInv ⊢
    refine oneS 2 hInv (by decide) rfl (by kernel_rfl) (fun K hK => ?_)
    rw [if_pos (by rfl)]
    obtain ⟨v', w', hrun, hR2⟩ := hR.s2 hv1 hz
    (try simp only [World.size_alloc] at hrun)
    refine wp_append_run _ _ _ _ rfl _ _ _ rfl rfl hrun ?_
    clear hrun hR
    have hR := hR2
    clear hR2
    refine hK.out _ _ ?_ (fun hHeld2 hInv2 => ?_)
    · (try dsimp only)
      exact hR.bel
    clear hK K hHeld hInv
    have hHeld := hHeld2
    have hInv := hInv2
    clear hHeld2 hInv2
    try simp only [Act.put, List.setIfInBounds_toArray, List.set_cons_zero, List.set_cons_succ] at hInv ⊢
    refine lastS 6 rfl (by decide) (by kernel_rfl) (fun K hK => ?_)
    rw [if_pos (by rfl)]
    obtain ⟨v6, w6, hrun, ho6, hb6⟩ := hR.last hz
    (try simp only [World.size_alloc] at hrun)
    refine wp_append_run _ _ _ _ rfl _ _ _ rfl rfl hrun ?_
    clear hrun
    refine hK.out _ _ ?_
    clear hK K
    try simp only [Act.put, List.setIfInBounds_toArray, List.set_cons_zero, List.set_cons_succ]
    refine lastS 7 rfl (by decide) (by kernel_rfl) (fun K hK => ?_)
    go_simp
    have hFw := few_any v6 _ w6 hol (ho6.el oE_len)
    (with_reducible refine hFw.mono ?_); rintro e w7 ⟨⟨t, rfl, ht⟩, hb7⟩
    refine hK.out _ _ ?_
    clear hK K
    try simp only [Act.put, List.setIfInBounds_toArray, List.set_cons_zero, List.set_cons_succ]
    refine lastS 8 rfl (by decide) (by kernel_rfl) (fun K hK => ?_)
    go_simp
    refine hK.out _ _ ?_
    clear hK K
    try simp only [Act.put, List.setIfInBounds_toArray, List.set_cons_zero, List.set_cons_succ]
    refine wpAnyS_done (by kernel_rfl) ?_ _
    have hb2w : Below w0.heap.size w0 w7 := hb1.trans ((hb6.trans (hb7.mono hb6.size)).mono hb1.size)
    clear hR hv1 hv0 ho6 hb6 hb7 hb1 hol
    cases t
    · go_wp2_with fail
      go_ret
      exact ⟨rfl, hb0h.out.trans (hb2w.mono (by omega))⟩
    obtain ⟨w2, hw2⟩ : ∃ w2, w7 = w2 := ⟨_, rfl⟩
    subst hw2
    obtain ⟨hFL0, hGF, hl39⟩ := few_last (ht rfl)
    have hFL := Lib.hid hFL0
    have hn39 : n ≤ 39 := by have := hnn.out; omega
    have hsz2 := hb2w.size
    clear ht hz hFL0 hl39
    go_wp2_with (first
      | (go_at_call 31; refine (new_N w7).mono ?_; rintro e w3 ⟨B, F, rfl, T0⟩))
    have hD0 := start_both T0
    obtain ⟨B2, hB2e⟩ : ∃ B2, w3.heap.size = B2 := ⟨_, rfl⟩
    rw [hB2e] at hD0 ⊢
    clear T0 hB2e
    go_loopw [9] (fun i wr => ∃ k : Nat, k ≤ n ∧ i = .int .i64 k ∧ DoP w7 B B2 k wr) (fun i _ => n + 1 - (intOf i).toNat)
    case atStart => exact ⟨0, Nat.zero_le _, rfl, hD0⟩
    case round =>
      clear hD0
      obtain ⟨k, hk, rfl, hD⟩ := hrel
      have hB := hb2w.trans (hD.bel.mono hsz2)
      by_cases hlt : k < n
      · obtain ⟨g, off, rfl, hcap, _, hg, hcl⟩ := hC.out wr k hB hlt
        have hlt' : (k : Int) < (n : Int) := by omega
        have hfo := fewO_at hFL.out (k := k) (by have := hnn.out; omega)
        generalize l.getD k default = o at *
        have hDo := do_any o hD (by omega) hfo
        obtain ⟨kd, ⟨fr, mn⟩, ⟨a1, a2, a3, a4, a5⟩, at_, a7, sz, a9⟩ := o
        have c0 : wr.cell? ⟨g, off + k * 12, none⟩ = some (.int .u8 (kd : Nat)) := hcl 0 (by omega)
        have c1 : wr.cell? ⟨g, off + k * 12 + 1, none⟩ = some (.int .i64 fr) := hcl 1 (by omega)
        have c2 : wr.cell? ⟨g, off + k * 12 + 2, none⟩ = some (.int .i64 mn) := hcl 2 (by omega)
        have c3 : wr.cell? ⟨g, off + k * 12 + 3, none⟩ = some (.int .i64 a1) := hcl 3 (by omega)
        have c4 : wr.cell? ⟨g, off + k * 12 + 4, none⟩ = some (.int .i64 a2) := hcl 4 (by omega)
        have c5 : wr.cell? ⟨g, off + k * 12 + 5, none⟩ = some (.int .i64 a3) := hcl 5 (by omega)
        have c6 : wr.cell? ⟨g, off + k * 12 + 6, none⟩ = some (.int .i64 a4) := hcl 6 (by omega)
        have c7 : wr.cell? ⟨g, off + k * 12 + 7, none⟩ = some (.bool a5) := hcl 7 (by omega)
        have c8 : wr.cell? ⟨g, off + k * 12 + 8, none⟩ = some (.int .i64 at_) := hcl 8 (by omega)
        have c9 : wr.cell? ⟨g, off + k * 12 + 9, none⟩ = some (.int .i64 a7) := hcl 9 (by omega)
        have c10 : wr.cell? ⟨g, off + k * 12 + 10, none⟩ = some (.int .i64 sz) := hcl 10 (by omega)
        have c11 : wr.cell? ⟨g, off + k * 12 + 11, none⟩ = some (.int .u64 a9) := hcl 11 (by omega)
        simp only [oE, fE] at hDo
        clear hcl hfo
        go_wp2_with (go_at_call 32; refine hDo.mono ?_; rintro e w4 ⟨rfl, hD4⟩; clear hDo)
        go_roundw
        case rel => exact ⟨k + 1, by omega, by go_num, hD4⟩
        case measure => simp [intOf]; omega
      · obtain rfl : k = n := by omega
        obtain ⟨F1, s, G, r, hbn, hr⟩ := hD
        have hT := hbn.tx
        obtain ⟨s1, s2, s3, e1, e2, e3, g1, g3, ⟨z1, z2⟩, z3, z4, z5, z6⟩ := hr.fresh_all (by omega) hGF
        have hin := hGF.inn
        have hGF2 := hGF
        obtain ⟨f5, f6, f7, f8, _⟩ := hGF2
        simp only [] at f5 f6 f7 f8
        have hSB : SB (x6, x8 + 2) := by unfold SB; simp only []; omega
        have hx6 : I64 x6 := ⟨by omega, by omega⟩
        have hok := Lib.hid hr.ok
        have hlen : s3.noted.length ≤ 1000000 := by rw [z6]; have := hr.ok.len; omega
        have hsn : s.n ≤ 1000000 := by have := hr.n; omega
        replace hin : ∀ z, SIn (x6, x8 + 2) z → 0 ≤ z ∧ z < 300 := hin
        replace z1 : covS (mayL s1) (x6, x8 + 2) = true := z1
        replace z2 : missS (mayL s1) (x6, x8 + 2) = [] := z2
        replace z5 : covS (mayL s3) (x6, x8 + 2) = covS s.noted (x6, x8 + 2) := z5
        obtain ⟨cc, hcc⟩ : ∃ c, covS s.noted (x6, x8 + 2) = c := ⟨_, rfl⟩
        rw [hcc] at z5
        have tcc : (cc == cc) = true := by simp
        have hAl := (Below.refl _ wr).alloc (Nat.le_refl _) (.cells #[.int .i64 x6, .int .i64 (x8 + 2)] (63 : Nat))
        have TA := hT.keep hAl
        have qA : Ck (wr.alloc (.cells #[.int .i64 x6, .int .i64 (x8 + 2)] (63 : Nat))) F1 wr.heap.size (.cells #[.int .i64 x6, .int .i64 (x8 + 2)] (63 : Nat) (0, 0)) := Ck.new hT.tx.lt _
        have hMk := make_N TA ((x1, x2, x3, x4, x5), x6, x7, x8, x9) hx6 hsn
        rw [← e1] at hMk
        simp only [fV, fE] at hMk
        have hMy := Lib.hid (fun (w' : World) (h : TxN w7 w' B F1 s1) => may_N h g1 hSB)
        have hNt := Lib.hid (fun (w' : World) (h : TxN w7 w' B F1 s1) => note_N h g1 hSB hin)
        have hUn := Lib.hid (fun (w' : World) (F' : Nat → Prop) (h : TxN w7 w' B F' s1) => unmake_N h hx6 z3)
        have hUn2 := Lib.hid (fun (w' : World) (F' : Nat → Prop) (h : TxN w7 w' B F' s2) => unmake_N h hx6 z4)
        have hMy2 := Lib.hid (fun (w' : World) (F' : Nat → Prop) (h : TxN w7 w' B F' s3) => may_N h g3 hSB)
        rw [z1] at hMy
        rw [z2] at hNt
        rw [← e2] at hUn
        rw [← e3] at hUn2
        rw [z5] at hMy2
        simp only [Option.getD_some, Option.getD_none, Option.isSome_some, Option.isSome_none, fV, fE, fx0] at hUn hUn2
        have hlx : w.heap.size < wr.heap.size := by have := hB.size; omega
        obtain ⟨p0, p1, p2, p3, p4, p5, p6, p7, p8⟩ := hCx.out wr hB
        clear hr hbn hT e1 e2 e3 g1 g3 z1 z2 z3 z4 z5 hGF hC hFL
        go_wp2_with (first
          | (go_at_call 40; refine hMk.mono ?_; rintro e w4 ⟨rfl, T4, S4⟩
             have q4 := qA.go S4
             obtain ⟨k0, k1⟩ := blk2 q4.blk
             obtain ⟨p0, p1, p2, p3, p4, p5, p6, p7, p8⟩ := hCx.out w4 (hb2w.trans (T4.bel.mono hsz2))
             have h4 := hMy.out w4 T4
             clear hMk qA TA S4)
          | (go_at_call 34; refine h4.mono ?_; rintro e w5 ⟨rfl, T5, hb5, _⟩
             have q5 := q4.keep hb5
             obtain ⟨k0, k1⟩ := blk2 q5.blk
             obtain ⟨p0, p1, p2, p3, p4, p5, p6, p7, p8⟩ := hCx.out w5 (hb2w.trans (T5.bel.mono hsz2))
             have h5 := hNt.out w5 T5
             clear h4 q4 T4 hb5 hMy)
          | (go_at_call 35; refine h5.mono ?_; rintro e w6 ⟨v6, F6, rfl, o6, T6, S6, _, _⟩
             replace T6 : TxN w7 w6 B F6 s1 := T6
             have q6 := q5.go S6
             obtain ⟨A6, cap6, rfl, _⟩ := ((ownSp_iff.1 o6.own).el spE_len).form (n := 0) rfl
             obtain ⟨k0, k1⟩ := blk2 q6.blk
             obtain ⟨p0, p1, p2, p3, p4, p5, p6, p7, p8⟩ := hCx.out w6 (hb2w.trans (T6.bel.mono hsz2))
             have h6 := hUn.out w6 F6 T6
             clear h5 q5 T5 S6 o6 hNt)
          | (go_at_call 41; refine h6.mono ?_; rintro e w8 ⟨rfl, T8, S8⟩
             have hA8 := (Below.refl _ w8).alloc (Nat.le_refl _) (.cells #[.int .i64 x1, .int .i64 x2, .int .i64 x3, .int .i64 x4, .bool x5, .int .i64 x6, .int .i64 x7, .int .i64 x8, .int .u64 x9] (69 : Nat))
             have q8 := (q6.go S8).keep hA8
             have T9 := T8.keep hA8
             have r9 : Ck (w8.alloc (.cells #[.int .i64 x1, .int .i64 x2, .int .i64 x3, .int .i64 x4, .bool x5, .int .i64 x6, .int .i64 x7, .int .i64 x8, .int .u64 x9] (69 : Nat))) F6 w8.heap.size (.cells #[.int .i64 x1, .int .i64 x2, .int .i64 x3, .int .i64 x4, .bool x5, .int .i64 x6, .int .i64 x7, .int .i64 x8, .int .u64 x9] (69 : Nat) (0, 0)) := Ck.new T8.tx.lt _
             have hl8 : w.heap.size < w8.heap.size := by have := (hb2w.trans (T8.bel.mono hsz2)).size; omega
             obtain ⟨p0, p1, p2, p3, p4, p5, p6, p7, p8⟩ := hCx.out w8 (hb2w.trans (T8.bel.mono hsz2))
             have h8 := hUn2.out _ F6 T9
             clear h6 q6 T6 S8 hUn T8)
          | (go_at_call 41; refine h8.mono ?_; rintro e w9 ⟨rfl, T10, S10⟩
             have hA9 := (Below.refl _ w9).alloc (Nat.le_refl _) (.cells #[.int .i64 0, .int .i64 0, .int .i64 0, .int .i64 0, .bool false, .int .i64 0, .int .i64 0, .int .i64 0, .int .u64 0] (69 : Nat))
             have q9 := (q8.go S10).keep hA9
             have r10 := (r9.go S10).keep hA9
             have T11 := T10.keep hA9
             clear h8 q8 r9 T9 T10 S10 hUn2 p0 p1 p2 p3 p4 p5 p6 p7 p8 k0 k1))
        obtain ⟨W, hWq⟩ : ∃ W, (w9.alloc (.cells #[.int .i64 0, .int .i64 0, .int .i64 0, .int .i64 0, .bool false, .int .i64 0, .int .i64 0, .int .i64 0, .int .u64 0] (69 : Nat))).drew = W := ⟨_, rfl⟩
        have TW : TxN w7 W B F6 s3 := by rw [← hWq]; exact T11.keep (Below.refl _ _).drew
        have qW := q9.keep (show Below _ _ W from by rw [← hWq]; exact (Below.refl _ _).drew)
        have rW := r10.keep (show Below _ _ W from by rw [← hWq]; exact (Below.refl _ _).drew)
        have hbW : Below w0.heap.size w0 W := hb2w.trans (TW.bel.mono hsz2)
        have hMv := hMy2.out W F6 TW
        have hCells := Lib.hid (fun (w' : World) (h : Below W.heap.size W w') => show (w'.cell? ⟨w.heap.size, 0, none⟩ = some (.int .i64 x1) ∧ w'.cell? ⟨w.heap.size, 1, none⟩ = some (.int .i64 x2) ∧ w'.cell? ⟨w.heap.size, 2, none⟩ = some (.int .i64 x3) ∧ w'.cell? ⟨w.heap.size, 3, none⟩ = some (.int .i64 x4) ∧ w'.cell? ⟨w.heap.size, 4, none⟩ = some (.bool x5) ∧ w'.cell? ⟨w.heap.size, 5, none⟩ = some (.int .i64 x6) ∧ w'.cell? ⟨w.heap.size, 6, none⟩ = some (.int .i64 x7) ∧ w'.cell? ⟨w.heap.size, 7, none⟩ = some (.int .i64 x8) ∧ w'.cell? ⟨w.heap.size, 8, none⟩ = some (.int .u64 x9)) ∧ (w'.cell? ⟨w8.heap.size, 0, none⟩ = some (.int .i64 x1) ∧ w'.cell? ⟨w8.heap.size, 1, none⟩ = some (.int .i64 x2) ∧ w'.cell? ⟨w8.heap.size, 2, none⟩ = some (.int .i64 x3) ∧ w'.cell? ⟨w8.heap.size, 3, none⟩ = some (.int .i64 x4) ∧ w'.cell? ⟨w8.heap.size, 4, none⟩ = some (.bool x5) ∧ w'.cell? ⟨w8.heap.size, 5, none⟩ = some (.int .i64 x6) ∧ w'.cell? ⟨w8.heap.size, 6, none⟩ = some (.int .i64 x7) ∧ w'.cell? ⟨w8.heap.size, 7, none⟩ = some (.int .i64 x8) ∧ w'.cell? ⟨w8.heap.size, 8, none⟩ = some (.int .u64 x9)) ∧ (w'.cell? ⟨wr.heap.size, 0, none⟩ = some (.int .i64 x6) ∧ w'.cell? ⟨wr.heap.size, 1, none⟩ = some (.int .i64 (x8 + 2))) from
          ⟨hCx.out w' (hbW.trans (h.mono hbW.size)), (blk9 (rW.keep h).blk).1, blk2 (qW.keep h).blk⟩)
        have hbK := Below.refl W.heap.size W
        clear T11 q9 r10 qW rW hMy2
        refine wp_region_held_drew (S := (fun w' => Below W.heap.size W w')) (by kernel_rfl) ?_ (fun hHeld => ?_)
        · (try dsimp only)
          (first | exact hbK | (rw [hWq]; exact hbK))
        rw [hWq]
        clear hWq
        refine takeL 0 (v := ?_) rfl (by kernel_rfl) (by kernel_rfl) (by kernel_rfl) (fun _ _ _ h => h) (by rfl) (by assumption) ?_ ?_
        rotate_left
        · (intro w hSw; (try dsimp only at hSw); obtain ⟨⟨p0, p1, p2, p3, p4, p5, p6, p7, p8⟩, ⟨g0, g1, g2, g3, g4, g5, g6, g7, g8⟩, k0, k1⟩ := hCells.out w hSw; go_simp <;> with_reducible rfl)
        try simp only [Act.put, List.setIfInBounds_toArray, List.set_cons_zero, List.set_cons_succ]
        refine takeL 1 (v := ?_) rfl (by kernel_rfl) (by kernel_rfl) (by kernel_rfl) (fun _ _ _ h => h) (by rfl) (by assumption) ?_ ?_
        rotate_left
        · (intro w hSw; (try dsimp only at hSw); obtain ⟨⟨p0, p1, p2, p3, p4, p5, p6, p7, p8⟩, ⟨g0, g1, g2, g3, g4, g5, g6, g7, g8⟩, k0, k1⟩ := hCells.out w hSw; go_simp <;> with_reducible rfl)
        try simp only [Act.put, List.setIfInBounds_toArray, List.set_cons_zero, List.set_cons_succ]
        refine takeL 2 (v := ?_) rfl (by kernel_rfl) (by kernel_rfl) (by kernel_rfl) (fun _ _ _ h => h) (by rfl) (by assumption) ?_ ?_
        rotate_left
        · (intro w hSw; (try dsimp only at hSw); obtain ⟨⟨p0, p1, p2, p3, p4, p5, p6, p7, p8⟩, ⟨g0, g1, g2, g3, g4, g5, g6, g7, g8⟩, k0, k1⟩ := hCells.out w hSw; go_simp <;> with_reducible rfl)
        try simp only [Act.put, List.setIfInBounds_toArray, List.set_cons_zero, List.set_cons_succ]
        refine takeL 3 (v := ?_) rfl (by kernel_rfl) (by kernel_rfl) (by kernel_rfl) (fun _ _ _ h => h) (by rfl) (by assumption) ?_ ?_
        rotate_left
        · (intro w hSw; (try dsimp only at hSw); obtain ⟨⟨p0, p1, p2, p3, p4, p5, p6, p7, p8⟩, ⟨g0, g1, g2, g3, g4, g5, g6, g7, g8⟩, k0, k1⟩ := hCells.out w hSw; go_simp <;> with_reducible rfl)
        try simp only [Act.put, List.setIfInBounds_toArray, List.set_cons_zero, List.set_cons_succ]
        refine takeL 4 (v := ?_) rfl (by kernel_rfl) (by kernel_rfl) (by kernel_rfl) (fun _ _ _ h => h) (by rfl) (by assumption) ?_ ?_
        rotate_left
        · (intro w hSw; (try dsimp only at hSw); obtain ⟨⟨p0, p1, p2, p3, p4, p5, p6, p7, p8⟩, ⟨g0, g1, g2, g3, g4, g5, g6, g7, g8⟩, k0, k1⟩ := hCells.out w hSw; go_simp <;> with_reducible rfl)
        try simp only [Act.put, List.setIfInBounds_toArray, List.set_cons_zero, List.set_cons_succ]
        refine takeL 5 (v := ?_) rfl (by kernel_rfl) (by kernel_rfl) (by kernel_rfl) (fun _ _ _ h => h) (by rfl) (by assumption) ?_ ?_
        rotate_left
        · (intro w hSw; (try dsimp only at hSw); obtain ⟨⟨p0, p1, p2, p3, p4, p5, p6, p7, p8⟩, ⟨g0, g1, g2, g3, g4, g5, g6, g7, g8⟩, k0, k1⟩ := hCells.out w hSw; go_simp <;> with_reducible rfl)
        try simp only [Act.put, List.setIfInBounds_toArray, List.set_cons_zero, List.set_cons_succ]
        refine takeL 6 (v := ?_) rfl (by kernel_rfl) (by kernel_rfl) (by kernel_rfl) (fun _ _ _ h => h) (by rfl) (by assumption) ?_ ?_
        rotate_left
        · (intro w hSw; (try dsimp only at hSw); obtain ⟨⟨p0, p1, p2, p3, p4, p5, p6, p7, p8⟩, ⟨g0, g1, g2, g3, g4, g5, g6, g7, g8⟩, k0, k1⟩ := hCells.out w hSw; go_simp <;> with_reducible rfl)
        try simp only [Act.put, List.setIfInBounds_toArray, List.set_cons_zero, List.set_cons_succ]
        refine takeL 7 (v := ?_) rfl (by kernel_rfl) (by kernel_rfl) (by kernel_rfl) (fun _ _ _ h => h) (by rfl) (by assumption) ?_ ?_
        rotate_left
        · (intro w hSw; (try dsimp only at hSw); obtain ⟨⟨p0, p1, p2, p3, p4, p5, p6, p7, p8⟩, ⟨g0, g1, g2, g3, g4, g5, g6, g7, g8⟩, k0, k1⟩ := hCells.out w hSw; go_simp <;> with_reducible rfl)
        try simp only [Act.put, List.setIfInBounds_toArray, List.set_cons_zero, List.set_cons_succ]
        refine takeL 8 (v := ?_) rfl (by kernel_rfl) (by kernel_rfl) (by kernel_rfl) (fun _ _ _ h => h) (by rfl) (by assumption) ?_ ?_
        rotate_left
        · (intro w hSw; (try dsimp only at hSw); obtain ⟨⟨p0, p1, p2, p3, p4, p5, p6, p7, p8⟩, ⟨g0, g1, g2, g3, g4, g5, g6, g7, g8⟩, k0, k1⟩ := hCells.out w hSw; go_simp <;> with_reducible rfl)
        try simp only [Act.put, List.setIfInBounds_toArray, List.set_cons_zero, List.set_cons_succ]
        refine takeL 9 (v := ?_) rfl (by kernel_rfl) (by kernel_rfl) (by kernel_rfl) (fun _ _ _ h => h) (by rfl) (by assumption) ?_ ?_
        rotate_left
        · (intro w hSw; (try dsimp only at hSw); obtain ⟨⟨p0, p1, p2, p3, p4, p5, p6, p7, p8⟩, ⟨g0, g1, g2, g3, g4, g5, g6, g7, g8⟩, k0, k1⟩ := hCells.out w hSw; go_simp <;> with_reducible rfl)
        try simp only [Act.put, List.setIfInBounds_toArray, List.set_cons_zero, List.set_cons_succ]
        refine takeL 10 (v := ?_) rfl (by kernel_rfl) (by kernel_rfl) (by kernel_rfl) (fun _ _ _ h => h) (by rfl) (by assumption) ?_ ?_
        rotate_left
        · (intro w hSw; (try dsimp only at hSw); obtain ⟨⟨p0, p1, p2, p3, p4, p5, p6, p7, p8⟩, ⟨g0, g1, g2, g3, g4, g5, g6, g7, g8⟩, k0, k1⟩ := hCells.out w hSw; go_simp <;> with_reducible rfl)
        try simp only [Act.put, List.setIfInBounds_toArray, List.set_cons_zero, List.set_cons_succ]
        refine takeL 11 (v := ?_) rfl (by kernel_rfl) (by kernel_rfl) (by kernel_rfl) (fun _ _ _ h => h) (by rfl) (by assumption) ?_ ?_
        rotate_left
        · (intro w hSw; (try dsimp only at hSw); obtain ⟨⟨p0, p1, p2, p3, p4, p5, p6, p7, p8⟩, ⟨g0, g1, g2, g3, g4, g5, g6, g7, g8⟩, k0, k1⟩ := hCells.out w hSw; go_simp <;> with_reducible rfl)
        try simp only [Act.put, List.setIfInBounds_toArray, List.set_cons_zero, List.set_cons_succ]
        refine takeL 12 (v := ?_) rfl (by kernel_rfl) (by kernel_rfl) (by kernel_rfl) (fun _ _ _ h => h) (by rfl) (by assumption) ?_ ?_
        rotate_left
        · (intro w hSw; (try dsimp only at hSw); obtain ⟨⟨p0, p1, p2, p3, p4, p5, p6, p7, p8⟩, ⟨g0, g1, g2, g3, g4, g5, g6, g7, g8⟩, k0, k1⟩ := hCells.out w hSw; go_simp <;> with_reducible rfl)
        try simp only [Act.put, List.setIfInBounds_toArray, List.set_cons_zero, List.set_cons_succ]
        refine takeL 13 (v := ?_) rfl (by kernel_rfl) (by kernel_rfl) (by kernel_rfl) (fun _ _ _ h => h) (by rfl) (by assumption) ?_ ?_
        rotate_left
        · (intro w hSw; (try dsimp only at hSw); obtain ⟨⟨p0, p1, p2, p3, p4, p5, p6, p7, p8⟩, ⟨g0, g1, g2, g3, g4, g5, g6, g7, g8⟩, k0, k1⟩ := hCells.out w hSw; go_simp <;> with_reducible rfl)
        try simp only [Act.put, List.setIfInBounds_toArray, List.set_cons_zero, List.set_cons_succ]
        refine takeL 14 (v := ?_) rfl (by kernel_rfl) (by kernel_rfl) (by kernel_rfl) (fun _ _ _ h => h) (by rfl) (by assumption) ?_ ?_
        rotate_left
        · (intro w hSw; (try dsimp only at hSw); obtain ⟨⟨p0, p1, p2, p3, p4, p5, p6, p7, p8⟩, ⟨g0, g1, g2, g3, g4, g5, g6, g7, g8⟩, k0, k1⟩ := hCells.out w hSw; go_simp <;> with_reducible rfl)
        try simp only [Act.put, List.setIfInBounds_toArray, List.set_cons_zero, List.set_cons_succ]
        refine takeL 15 (v := ?_) rfl (by kernel_rfl) (by kernel_rfl) (by kernel_rfl) (fun _ _ _ h => h) (by rfl) (by assumption) ?_ ?_
        rotate_left
        · (intro w hSw; (try dsimp only at hSw); obtain ⟨⟨p0, p1, p2, p3, p4, p5, p6, p7, p8⟩, ⟨g0, g1, g2, g3, g4, g5, g6, g7, g8⟩, k0, k1⟩ := hCells.out w hSw; go_simp <;> with_reducible rfl)
        try simp only [Act.put, List.setIfInBounds_toArray, List.set_cons_zero, List.set_cons_succ]
        refine takeL 16 (v := ?_) rfl (by kernel_rfl) (by kernel_rfl) (by kernel_rfl) (fun _ _ _ h => h) (by rfl) (by assumption) ?_ ?_
        rotate_left
        · (intro w hSw; (try dsimp only at hSw); obtain ⟨⟨p0, p1, p2, p3, p4, p5, p6, p7, p8⟩, ⟨g0, g1, g2, g3, g4, g5, g6, g7, g8⟩, k0, k1⟩ := hCells.out w hSw; go_simp <;> with_reducible rfl)
        try simp only [Act.put, List.setIfInBounds_toArray, List.set_cons_zero, List.set_cons_succ]
        refine takeL 17 (v := ?_) rfl (by kernel_rfl) (by kernel_rfl) (by kernel_rfl) (fun _ _ _ h => h) (by rfl) (by assumption) ?_ ?_
        rotate_left
        · (intro w hSw; (try dsimp only at hSw); obtain ⟨⟨p0, p1, p2, p3, p4, p5, p6, p7, p8⟩, ⟨g0, g1, g2, g3, g4, g5, g6, g7, g8⟩, k0, k1⟩ := hCells.out w hSw; go_simp <;> with_reducible rfl)
        try simp only [Act.put, List.setIfInBounds_toArray, List.set_cons_zero, List.set_cons_succ]
        refine takeL 18 (v := ?_) rfl (by kernel_rfl) (by kernel_rfl) (by kernel_rfl) (fun _ _ _ h => h) (by rfl) (by assumption) ?_ ?_
        rotate_left
        · (intro w hSw; (try dsimp only at hSw); obtain ⟨⟨p0, p1, p2, p3, p4, p5, p6, p7, p8⟩, ⟨g0, g1, g2, g3, g4, g5, g6, g7, g8⟩, k0, k1⟩ := hCells.out w hSw; go_simp <;> with_reducible rfl)
        try simp only [Act.put, List.setIfInBounds_toArray, List.set_cons_zero, List.set_cons_succ]
        refine takeL 19 (v := ?_) rfl (by kernel_rfl) (by kernel_rfl) (by kernel_rfl) (fun _ _ _ h => h) (by rfl) (by assumption) ?_ ?_
        rotate_left
        · (intro w hSw; (try dsimp only at hSw); obtain ⟨⟨p0, p1, p2, p3, p4, p5, p6, p7, p8⟩, ⟨g0, g1, g2, g3, g4, g5, g6, g7, g8⟩, k0, k1⟩ := hCells.out w hSw; go_simp <;> with_reducible rfl)
        try simp only [Act.put, List.setIfInBounds_toArray, List.set_cons_zero, List.set_cons_succ]
        refine takeL 20 (v := ?_) rfl (by kernel_rfl) (by kernel_rfl) (by kernel_rfl) (fun _ _ _ h => h) (by rfl) (by assumption) ?_ ?_
        rotate_left
        · (intro w hSw; (try dsimp only at hSw); obtain ⟨⟨p0, p1, p2, p3, p4, p5, p6, p7, p8⟩, ⟨g0, g1, g2, g3, g4, g5, g6, g7, g8⟩, k0, k1⟩ := hCells.out w hSw; go_simp <;> with_reducible rfl)
        try simp only [Act.put, List.setIfInBounds_toArray, List.set_cons_zero, List.set_cons_succ]
        refine takeL 21 (v := ?_) rfl (by kernel_rfl) (by kernel_rfl) (by kernel_rfl) (fun _ _ _ h => h) (by rfl) (by assumption) ?_ ?_
        rotate_left
        · (intro w hSw; (try dsimp only at hSw); obtain ⟨⟨p0, p1, p2, p3, p4, p5, p6, p7, p8⟩, ⟨g0, g1, g2, g3, g4, g5, g6, g7, g8⟩, k0, k1⟩ := hCells.out w hSw; go_simp <;> with_reducible rfl)
        try simp only [Act.put, List.setIfInBounds_toArray, List.set_cons_zero, List.set_cons_succ]
        refine takeL 22 (v := ?_) rfl (by kernel_rfl) (by kernel_rfl) (by kernel_rfl) (fun _ _ _ h => h) (by rfl) (by assumption) ?_ ?_
        rotate_left
        · (intro w hSw; (try dsimp only at hSw); obtain ⟨⟨p0, p1, p2, p3, p4, p5, p6, p7, p8⟩, ⟨g0, g1, g2, g3, g4, g5, g6, g7, g8⟩, k0, k1⟩ := hCells.out w hSw; go_simp <;> with_reducible rfl)
        try simp only [Act.put, List.setIfInBounds_toArray, List.set_cons_zero, List.set_cons_succ]
        refine takeL 23 (v := ?_) rfl (by kernel_rfl) (by kernel_rfl) (by kernel_rfl) (fun _ _ _ h => h) (by rfl) (by assumption) ?_ ?_
        rotate_left
        · (intro w hSw; (try dsimp only at hSw); obtain ⟨⟨p0, p1, p2, p3, p4, p5, p6, p7, p8⟩, ⟨g0, g1, g2, g3, g4, g5, g6, g7, g8⟩, k0, k1⟩ := hCells.out w hSw; go_simp <;> with_reducible rfl)
        try simp only [Act.put, List.setIfInBounds_toArray, List.set_cons_zero, List.set_cons_succ]
        refine takeL 25 (v := ?_) rfl (by kernel_rfl) (by kernel_rfl) (by kernel_rfl) (fun _ _ _ h => h) (by rfl) (by assumption) ?_ ?_
        rotate_left
        · (intro w hSw; (try dsimp only at hSw); obtain ⟨⟨p0, p1, p2, p3, p4, p5, p6, p7, p8⟩, ⟨g0, g1, g2, g3, g4, g5, g6, g7, g8⟩, k0, k1⟩ := hCells.out w hSw; go_simp <;> with_reducible rfl)
        try simp only [Act.put, List.setIfInBounds_toArray, List.set_cons_zero, List.set_cons_succ]
        refine takeL 27 (v := ?_) rfl (by kernel_rfl) (by kernel_rfl) (by kernel_rfl) (fun _ _ _ h => h) (by rfl) (by assumption) ?_ ?_
        rotate_left
        · (intro w hSw; (try dsimp only at hSw); obtain ⟨⟨p0, p1, p2, p3, p4, p5, p6, p7, p8⟩, ⟨g0, g1, g2, g3, g4, g5, g6, g7, g8⟩, k0, k1⟩ := hCells.out w hSw; go_simp <;> with_reducible rfl)
        try simp only [Act.put, List.setIfInBounds_toArray, List.set_cons_zero, List.set_cons_succ]
        refine oneL 24 rfl (by kernel_rfl) (fun K hK => ?_)
        go_simp
        ((with_reducible refine hMv.mono ?_); rintro e w10 ⟨rfl, T12, hb10, _⟩; replace hbK := hb10; have hN := noted_N T12 hlen; rw [z6] at hN; clear hMv TW)
        refine hK.out _ _ ?_ (fun hHeld2 => ?_)
        · (try dsimp only)
          (first | exact hbK | (rw [hWq]; exact hbK))
        clear hK K hHeld
        have hHeld := hHeld2
        clear hHeld2
        try simp only [Act.put, List.setIfInBounds_toArray, List.set_cons_zero, List.set_cons_succ]
        refine oneL 26 rfl (by kernel_rfl) (fun K hK => ?_)
        go_simp
        ((with_reducible refine hN.mono ?_); rintro e w11 ⟨v11, rfl, o11, _, T13, hb11⟩; replace hbK := hbK.trans (hb11.mono hbK.size); have hCv := covers_any v11 s.noted (x6, x8 + 2) w11 hok.out.sbs (by have := hok.out.len; omega) hSB o11.own.pl; rw [hcc] at hCv; clear hN T12 o11)
        refine hK.out _ _ ?_ (fun hHeld2 => ?_)
        · (try dsimp only)
          (first | exact hbK | (rw [hWq]; exact hbK))
        clear hK K hHeld
        have hHeld := hHeld2
        clear hHeld2
        try simp only [Act.put, List.setIfInBounds_toArray, List.set_cons_zero, List.set_cons_succ]
        refine oneL 28 rfl (by kernel_rfl) (fun K hK => ?_)
        go_simp
        ((with_reducible refine hCv.mono ?_); rintro e w12 ⟨rfl, hb12⟩; replace hbK := hbK.trans (hb12.mono hbK.size); clear hCv T13)
        refine hK.out _ _ ?_ (fun hHeld2 => ?_)
        · (try dsimp only)
          (first | exact hbK | (rw [hWq]; exact hbK))
        clear hK K hHeld
        have hHeld := hHeld2
        clear hHeld2
        try simp only [Act.put, List.setIfInBounds_toArray, List.set_cons_zero, List.set_cons_succ]
        refine takeL 29 (v := ?_) rfl (by kernel_rfl) (by kernel_rfl) (by kernel_rfl) (fun _ _ _ h => h) (by rfl) (by assumption) ?_ ?_
        rotate_left
        · (intro w hSw; (try dsimp only at hSw); obtain ⟨⟨p0, p1, p2, p3, p4, p5, p6, p7, p8⟩, ⟨g0, g1, g2, g3, g4, g5, g6, g7, g8⟩, k0, k1⟩ := hCells.out w hSw; go_simp <;> with_reducible rfl)
        try simp only [Act.put, List.setIfInBounds_toArray, List.set_cons_zero, List.set_cons_succ]
        refine takeL 30 (v := ?_) rfl (by kernel_rfl) (by kernel_rfl) (by kernel_rfl) (fun _ _ _ h => h) (by rfl) (by assumption) ?_ ?_
        rotate_left
        · (intro w hSw; (try dsimp only at hSw); obtain ⟨⟨p0, p1, p2, p3, p4, p5, p6, p7, p8⟩, ⟨g0, g1, g2, g3, g4, g5, g6, g7, g8⟩, k0, k1⟩ := hCells.out w hSw; go_simp <;> with_reducible rfl)
        try simp only [Act.put, List.setIfInBounds_toArray, List.set_cons_zero, List.set_cons_succ]
        refine takeL 31 (v := ?_) rfl (by kernel_rfl) (by kernel_rfl) (by kernel_rfl) (fun _ _ _ h => h) (by rfl) (by assumption) ?_ ?_
        rotate_left
        · (intro w hSw; (try dsimp only at hSw); obtain ⟨⟨p0, p1, p2, p3, p4, p5, p6, p7, p8⟩, ⟨g0, g1, g2, g3, g4, g5, g6, g7, g8⟩, k0, k1⟩ := hCells.out w hSw; go_simp <;> with_reducible rfl)
        try simp only [Act.put, List.setIfInBounds_toArray, List.set_cons_zero, List.set_cons_succ]
        refine wpAnyH_done (by kernel_rfl) ?_ _
        go_wp2_with fail
        go_ret
        exact ⟨rfl, hb0h.out.trans ((hbW.trans (hbK.mono hbW.size)).mono (by omega))⟩
end Go.Proofs.Ytcemiclbeocnjaa
