/-
  Package undo: Back.
-/
import Derived.Test.YtkmfncnfpneekaaUn7
set_option linter.unusedVariables false
set_option linter.unusedSimpArgs false
namespace Go.Proofs.Ytkmfncnfpneekaa
open Go.RowKit Go.ChangeShapes Go.WideShapes Go.Deep Go.Shelf
attribute [local go_sem] Oper.semAt_some

theorem kp_row {n₀ Bo g i : Nat} {t : TypeId} {W : World} {v u : Value} (hc : Boxed W Bo t v) (ho : v.ownBlock = some g) (hg : n₀ ≤ g) (hne : Bo ≠ g) (hlt : g < W.heap.size) : Kp n₀ Bo W (W.setCell ⟨g, i, none⟩ u) := by
  have hY : Boxed (W.setCell ⟨g, i, none⟩ u) Bo t v := by
    have := Below.heap_setCell W ⟨g, i, none⟩ u Bo hne
    exact this.trans hc
  refine ⟨(Below.refl _ _).setCell hg _, fun b cs tt f hbk hbn hno => ?_, fun b hbl q => (ownAt_iff hc).2 ((ownAt_iff hY).1 q), fun _ => ownLt_of hY (fun b q => ?_)⟩
  · exact Below.heap_setCell W ⟨g, i, none⟩ u b (fun e => hno ((ownAt_iff hc).2 (by rw [ho, e])))
  · rw [ho] at q
    cases q
    simpa using hlt
theorem OwnU.walk {w w1 : World} {base : Nat} {v : Value} {l : List Nat} {row : Option Nat} (h : OwnU w base v l) (hg : w.grownBy w1 row) (hr : ∀ r, row = some r → ∃ o : Obj, w.heap[r]? = some o ∧ o.isCells = false) : OwnU w1 base v l := by
  refine World.ownsRow.kept h hg ?_
  rcases h.2 with ⟨rfl, _⟩ | ⟨g, cap, cur, rfl, _, hgb, _⟩
  · exact .inl rfl
  · refine .inr fun e' => ?_
    obtain ⟨o, ho, hc⟩ := hr g (by simpa [Value.ownBlock] using e'.symm)
    rw [hgb] at ho; cases ho; cases hc
theorem OwnU.row {w : World} {base g n c : Nat} {l : List Nat} (h : OwnU w base (.slice (some ⟨g, 0, none⟩) n c) l) : base ≤ g ∧ ∃ cur, w.heap[g]? = some (.cells cur 22 (0, 0)) := by
  rcases h.2 with ⟨hv, _⟩ | ⟨g', cap, cur, hv, hb, hg, _⟩
  · cases hv
  · cases hv; exact ⟨hb, cur, hg⟩
/-- what the body knows: the image, in the box -/
structure BI (n₀ Bo : Nat) (w0 : World) (A : Option Addr) (n c : Nat) (I : List Nat) (W : World) : Prop where
  b : Boxed W Bo 23 (.slice A n c)
  o : OwnU W n₀ (.slice A n c) I
  l : I.length = n
  B : Below n₀ w0 W
/-- one word set, where the image has it -/
theorem BI.set {n₀ Bo g n c i : Nat} {w0 W : World} {I : List Nat} (h : BI n₀ Bo w0 (some ⟨g, 0, none⟩) n c I W) (hi : i < n) (y : Nat) :
    BI n₀ Bo w0 (some ⟨g, 0, none⟩) n c (I.set i y) (W.setCell ⟨g, i, none⟩ (.int .u64 (y : Nat))) ∧ Kp n₀ Bo W (W.setCell ⟨g, i, none⟩ (.int .u64 (y : Nat))) ∧ (W.cell? ⟨g, i, none⟩ = some (.int .u64 (I.getD i 0 : Nat)) ∧ W.frozen? ⟨g, i, none⟩ = false) ∧
      ∀ b x y2, Bk W b x y2 → Bk (W.setCell ⟨g, i, none⟩ (.int .u64 (y : Nat))) b x y2 := by
  obtain ⟨hg, cur, hcur⟩ := h.o.row
  have hne : Bo ≠ g := by
    rintro rfl
    have := (show W.heap[Bo]? = _ from h.b).symm.trans hcur
    simp at this
  refine ⟨⟨?_, h.o.set h.l hi, by rw [List.length_set]; exact h.l, h.B.setCell hg _⟩, kp_row h.b rfl hg hne (Array.getElem?_eq_some_iff.1 hcur).1, h.o.cell h.l hi, fun b x y2 hb => ?_⟩
  · exact (Below.heap_setCell W ⟨g, i, none⟩ _ Bo hne).trans h.b
  · refine (Below.heap_setCell W ⟨g, i, none⟩ _ b (fun e => ?_)).trans hb
    simp only [] at e
    subst e
    have := (show W.heap[b]? = _ from hb).symm.trans hcur
    simp at this
def curB (I : List Nat) (pre : List Bv) : List Nat := pre.foldl (fun J y => putB J y.2.1 y.2.2.2) I
theorem curB_snoc (I : List Nat) (pre : List Bv) (y : Bv) : curB I (pre ++ [y]) = putB (curB I pre) y.2.1 y.2.2.2 := by
  unfold curB; rw [List.foldl_append]; rfl
theorem curB_all (I : List Nat) (L : List Ex) : curB I (bk L 0) = backL I (L.map px) := by
  have e : curB I (bk L 0) = ((bk L 0).map Prod.snd).foldl (fun J x => putB J x.1 x.2.2) I := by
    unfold curB; rw [List.foldl_map]
  rw [e, bk_snd, List.drop_zero, List.foldl_reverse]
  unfold backL
  rw [List.foldr_map]
  rfl
/-- an entry that Back takes: its At is near -/
def Near (x : Pe) : Prop := -1099511627776 ≤ x.1 ∧ x.1 ≤ 1099511627776 ∧ x.2.length ≤ 1000

set_option maxRecDepth 100000 in
set_option maxHeartbeats 1000000 in
theorem Back_in (n : Nat) (hn : 3 ≤ n) (vI : Value) (A : Option Addr) (N cap : Nat) (I : List Nat) (L : List Ex) (w : World) (hI : KL .u64 w vI I) (hIl : I.length ≤ 1000) (hlen : L.length = N) (hN : N ≤ 1000) (hL : EL 2 eS w (.slice A N cap) L) (hK : ∀ x ∈ L, KL .u64 w x.2.1 x.2.2) (hnear : ∀ x ∈ L, Near (px x)) :
    CallsIn Fence.wide n Try.prog 20 #[vI, .slice A N cap] w fun e W' => ∃ v, e = .returned v ∧ OwnU W' w.heap.size v (backL I (L.map px)) ∧ Below w.heap.size w W' := by
  have hn1 : 1 ≤ n := by omega
  refine callsIn_of_wp_marks Try.func20 rfl trivial ?_ rfl
  simp only [Try.ntmps20, List.size_toArray, List.length_cons, List.length_nil, Nat.reduceAdd, Nat.reduceSub, Array.replicate_succ, Array.replicate_zero, List.push_toArray, List.append_toArray, List.nil_append, List.cons_append]
  gi_wp2
  refine ⟨trivial, (callsIn_wide.2 (clone_any vI I w (by omega) hI)).mono ?_⟩
  rintro e w1 ⟨vO, rfl, hO, hb1⟩
  obtain ⟨AO, cO, hvO, hAO⟩ := hO.form
  obtain ⟨nI, hnI⟩ : ∃ nI, I.length = nI := ⟨_, rfl⟩
  rw [hnI] at hvO hAO
  subst hvO
  gi_wp2
  refine ⟨trivial, (backward_in (n - 1) A N cap _).mono ?_⟩
  rintro e w' ⟨rfl, rfl⟩
  gi_wp2
  have bO := (Boxed.new w1 23 (.slice AO nI cO)).alloc (.cells #[.slice A N cap] 34)
  have bL := Boxed.new (w1.alloc (.cells #[.slice AO nI cO] 23)) 34 (.slice A N cap)
  have hBa : Below w1.heap.size w1 ((w1.alloc (.cells #[.slice AO nI cO] 23)).alloc (.cells #[.slice A N cap] 34)) := ((Below.refl _ w1).alloc (Nat.le_refl _) _).alloc (by simp) _
  have hB0 := hb1.trans (hBa.mono hb1.size)
  have hOa := hO.keep hBa
  have hsz : ((w1.alloc (.cells #[.slice AO nI cO] 23)).alloc (.cells #[.slice A N cap] 34)).heap.size = w1.heap.size + 2 := by simp
  simp only [World.size_alloc] at bO bL
  have hbs := hb1.size
  have hAO2 : ∀ b, (Value.slice AO nI cO).ownBlock = some b → b < w1.heap.size := fun b q => (World.ownsRow.lt hO b q).2
  obtain ⟨W0, hW0⟩ : ∃ W0, ((w1.alloc (.cells #[.slice AO nI cO] 23)).alloc (.cells #[.slice A N cap] 34)) = W0 := ⟨_, rfl⟩
  rw [hW0] at bO bL hB0 hOa hsz ⊢
  clear hW0 hBa hO
  obtain ⟨w1s, hw1s⟩ : ∃ s, w1.heap.size = s := ⟨_, rfl⟩
  rw [hw1s] at bO bL hsz hbs hAO hAO2 ⊢
  have hall := Lib.hid (curB_all I L)
  refine wpIn_rangeFunc_told rfl hn1 (gf := 37) (lb := #[.pointer (some ⟨w1s + 1, 0, none⟩)]) rfl trivial (enters_of Try.func37 (by kernel_rfl) rfl)
    (bwd_told (n - 1) (by omega) w1s (w1s + 1) w.heap.size N cap A L hlen (fun x hx => by obtain ⟨A, c, h, _⟩ := hK x hx; exact ⟨A, _, c, h⟩) hN W0 (by omega) (ownLt_of bO (fun b q => by have := hAO2 b q; omega)) bL (by omega) (fun q => by have := hAO2 _ ((ownAt_iff bO).1 q); omega) (by omega) (fun w2 hb => hL.keep (hB0.trans hb)))
    kp_t (kp_b (by omega) (by omega)) (Below.refl _ _) (fun _ => rfl)
    (fun pre W => BI w.heap.size w1s w AO nI cO (curB I pre) W)
    (fun _ _ _ => False)
    (fun s A B row hs hg hr => ⟨bx_walk hs.b hg (fun r e => (hr r e).2), hs.o.walk hg (fun r e => (hr r e).2), hs.l, ownFrom_below (β := Unit) (Nat.le_refl w.heap.size) (by omega) () A B row hs.B hg hr⟩)
    (fun _ _ _ _ _ hs _ _ => hs)
    ⟨bO, hOa, hnI, hB0⟩
    (fun y a' W => ∃ Bx, Bk W Bx (.int .i64 y.2.1) y.2.2.1 ∧ y.2 ∈ L ∧ a' = { tmps := #[vI, .slice A N cap, undef, undef, .slice none 0 0, .pointer (some ⟨w1s, 0, none⟩), undef, .pointer (some ⟨Bx, 0, none⟩), undef, undef, undef, vI, .slice AO nI cO, .slice A N cap, .func (.func 37) #[] #[.pointer (some ⟨w1s + 1, 0, none⟩)], .int .i64 y.1, .agg #[.int .i64 y.2.1, y.2.2.1], undef, undef, undef, undef, undef, undef, undef, undef, undef, undef, undef, undef, undef, undef, undef, undef, undef, undef, undef, undef, undef, undef, undef, undef, undef, undef], defers := [] })
    (fun y a' _ X Y row hs hg hr => by
      obtain ⟨Bx, h2, h4, h3⟩ := hs
      refine ⟨Bx, (hg.block Bx h2.lt (fun e => ?_)).trans h2, h4, h3⟩
      obtain ⟨_, o, ho, hc⟩ := hr Bx e.symm
      rw [show X.heap[Bx]? = _ from h2] at ho
      cases ho; simp [Obj.isCells] at hc)
    ?assign ?body ?done ?stop
  case assign =>
    rintro l pre y W K hI2 hT hK2
    have hbo : w1s < W.heap.size := hI2.b.lt
    have hBs := hI2.B.size
    have hIa : BI w.heap.size w1s w AO nI cO (curB I pre) (W.alloc (.cells #[.int .i64 y.2.1, y.2.2.1] 25)) := ⟨hI2.b.alloc _, hI2.o.keep ((Below.refl _ _).alloc (Nat.le_refl _) _), hI2.l, hI2.B.alloc hBs _⟩
    have hbx := Bk.new W (.int .i64 y.2.1) y.2.2.1
    obtain ⟨yi, ya, yv, yl⟩ := y
    obtain ⟨A5, c5, hyv, _⟩ := hK _ hT
    simp only [] at hyv
    subst hyv
    dsimp only at *
    gi_wp2
    exact hK2 _ _ ((KeepsOthers.alloc _ _).from _) (kp_new hBs hbo) hIa ⟨W.heap.size, hbx, hT, rfl⟩
  case body =>
    rintro l pre y a' W hI2 ⟨Bx, bX, hT, rfl⟩ hlt
    have hsn := Lib.hid (curB_snoc I pre y)
    obtain ⟨yi, ya, yv, os⟩ := y
    have hKo := hK _ hT
    obtain ⟨k1, k2, k3⟩ := hnear _ hT
    simp only [px] at k1 k2 k3
    obtain ⟨n5, hn5⟩ : ∃ n5, os.length = n5 := ⟨_, rfl⟩
    obtain ⟨A5, c5, hyv, hC5⟩ := hKo.form hn5
    simp only [] at hyv
    subst hyv
    dsimp only at *
    obtain ⟨x0, x1⟩ := bX.c2
    have hpt := Lib.hid (fun k (h : k < n5) => putB_take (curB I pre) os ya k (by omega))
    have hfin := Lib.hid (show putB (curB I pre) ya (os.take n5) = curB I (pre ++ [(yi, ya, .slice A5 n5 c5, os)]) from by rw [hsn.out, ← hn5, List.take_length])
    have hst : putB (curB I pre) ya (os.take 0) = curB I pre := rfl
    rw [← hst] at hI2
    replace hst := Lib.hid hst
    rw [hn5] at k3
    obtain ⟨cur, hcur⟩ : ∃ cur, curB I pre = cur := ⟨_, rfl⟩
    rw [hcur] at hI2 hpt hfin
    clear hst hcur
    replace hC5 := Lib.hid hC5
    replace hn5 := Lib.hid hn5
    clear hKo hsn
    gi_wp2
    gi_loopw [20] (fun x wr => ∃ k : Nat, k ≤ n5 ∧ x = .int .i64 (k : Int) ∧ BI w.heap.size w1s w AO nI cO (putB cur ya (os.take k)) wr ∧ Bk wr Bx (.int .i64 ya) (.slice A5 n5 c5) ∧ KeepsOthers W wr ∧ Kp w.heap.size w1s W wr)
      (fun x wr => n5 + 1 - (intOf x).toNat)
    case atStart =>
      exact ⟨0, Nat.zero_le _, rfl, hI2, bX, KeepsOthers.refl _, kp_of (Below.refl _ _) hI2.B.size hI2.b.lt⟩
    case round =>
      obtain ⟨k, hk, rfl, hIr, hXr, hko, hkp⟩ := hrel
      clear hI2 bX x0 x1
      by_cases hlt2 : k < n5
      · obtain ⟨g5, o5, rfl, hcap5, hg5, c0⟩ := hC5.out wr k hIr.B hlt2
        have hlt3 : (k : Int) < (n5 : Int) := by omega
        have hp1 := Lib.hid (hpt.out k hlt2)
        generalize os.getD k 0 = o at *
        obtain ⟨x0, x1⟩ := hXr.c2
        have hbc := hIr.b.cell
        have hw1 : IntKind.i64.wrap (ya + (k : Int)) = ya + (k : Int) := by rw [IntKind.wrap_i64]; omega
        by_cases q1 : 0 ≤ ya + (k : Int)
        · obtain ⟨j, hj⟩ := Int.eq_ofNat_of_zero_le q1
          by_cases q2 : j < nI
          · obtain ⟨g, rfl, hg, hgl⟩ := hAO (by omega)
            obtain ⟨hI3, hkp3, ⟨d0, d1⟩, hX3⟩ := hIr.set q2 o
            have hX4 := hX3 _ _ _ hXr
            have hput : setI (putB cur ya (os.take k)) (ya + (k : Int)) o = (putB cur ya (os.take k)).set j o := by unfold setI; rw [if_pos q1, hj]; rfl
            rw [← hput, ← hp1.out] at hI3
            replace hput := Lib.hid hput
            have hko3 := hko.trans (KeepsOthers.setCell wr ⟨g, j, none⟩ (.int .u64 (o : Nat)))
            have hkp4 := kp_t hkp hkp3
            have q3 : (j : Int) < (nI : Int) := by omega
            rw [hj] at hw1 q1
            clear hIr hXr hX3 hkp3 hko hkp
            gi_wp2
            go_roundw
            case rel => exact ⟨k + 1, by omega, by go_num, hI3, hX4, hko3, hkp4⟩
            case measure => first | (simp [intOf]; done) | (simp [intOf]; omega)
          · have q0 := q2
            have q3 : ¬ ((j : Int) < (nI : Int)) := by omega
            have hIe := hIr
            have hput : setI (putB cur ya (os.take k)) (ya + (k : Int)) o = putB cur ya (os.take k) := by
              unfold setI
              rw [if_pos q1, hj]
              exact List.set_eq_of_length_le (by rw [hIr.l]; show nI ≤ j; omega)
            rw [← hput, ← hp1.out] at hIe
            replace hput := Lib.hid hput
            clear hIr
            rw [hj] at hw1 q1
            gi_wp2
            go_roundw
            case rel => exact ⟨k + 1, by omega, by go_num, hIe, hXr, hko, hkp⟩
            case measure => first | (simp [intOf]; done) | (simp [intOf]; omega)
        · have q0 : ya + (k : Int) < 0 := by omega
          have hIe := hIr
          have hput : setI (putB cur ya (os.take k)) (ya + (k : Int)) o = putB cur ya (os.take k) := by
            unfold setI
            rw [if_neg q1]
          rw [← hput, ← hp1.out] at hIe
          replace hput := Lib.hid hput
          clear hIr
          gi_wp2
          go_roundw
          case rel => exact ⟨k + 1, by omega, by go_num, hIe, hXr, hko, hkp⟩
          case measure => first | (simp [intOf]; done) | (simp [intOf]; omega)
      · obtain rfl : k = n5 := by omega
        rw [hfin.out] at hIr
        gi_wp2
        exact ⟨hko.from _, hkp, hIr⟩
  case done =>
    rintro D ys W hD hys hI2 hKD
    subst hys
    have hc := hI2.b.cell
    have hof := hI2.o
    rw [hall.out] at hof
    have hB := hI2.B
    clear hI2
    gi_wp2
    refine ⟨by simp, .inl ⟨_, _, rfl, run_takeDeferred hKD, ?_⟩⟩
    exact ⟨_, results_tmp rfl _ _ _, _, rfl, hof.walk (grownBy_putObj' _ D _) (fun r e => by cases e; exact ⟨_, hKD, rfl⟩), hB.trans (belowK_b (w := w) (Nat.le_refl _) W D _ _ (by omega) hKD rfl rfl)⟩
  case stop =>
    rintro D c pre W _ _ h _
    exact h.elim
theorem Back_any (vI v : Value) (I : List Nat) (l : List Pe) (w : World) (hI : KL .u64 w vI I) (hIl : I.length ≤ 1000) (hlen : l.length ≤ 1000) (hL : EN w v l) (hnear : ∀ x ∈ l, Near x) :
    Calls Try.prog 20 #[vI, v] w fun e w' => ∃ v', e = .returned v' ∧ OwnU w' w.heap.size v' (backL I l) ∧ Below w.heap.size w w' := by
  obtain ⟨L, hE, hK, rfl⟩ := hL
  obtain ⟨A, cap, rfl, hC⟩ := EL.form hE rfl
  rw [List.length_map] at hlen
  exact callsIn_wide.1 (Back_in 3 (by omega) vI A L.length cap I L w hI hIl rfl hlen hE hK (fun x hx => hnear _ (List.mem_map_of_mem hx)))
end Go.Proofs.Ytkmfncnfpneekaa
