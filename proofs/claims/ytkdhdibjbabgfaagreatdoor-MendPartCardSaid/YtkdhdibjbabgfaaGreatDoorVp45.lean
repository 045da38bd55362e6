/-
  Part of the proof of MendPart.
-/
import Derived.Test.YtkdhdibjbabgfaaGreatDoorVp28
import Derived.Test.YtkdhdibjbabgfaaGreatDoorVp44
import Derived.Scope
import Derived.Test.YtkdhdibjbabgfaaGreatDoorVp0
set_option maxRecDepth 100000
set_option maxHeartbeats 1000000
set_option linter.unusedVariables false
set_option linter.unusedSimpArgs false
namespace Go.Proofs.YtkdhdibjbabgfaaGreatDoor
open Go.Lib Go.RowKit Go.ChangeShapes Go.WideShapes Go.Deep Go.Shelf
attribute [local go_sem] Oper.semAt_some noPan_ret
def curM (pre : List Lx) : List Ox := pre.flatMap fun y => y.2.getD []
theorem curM_snoc (pre : List Lx) (y : Lx) : curM (pre ++ [y]) = curM pre ++ y.2.getD [] := by unfold curM; rw [List.flatMap_append]; simp
theorem curM_all {I : List Nat} {L : Nat} {ys : List Lx} (h : ys.map Prod.snd = lanesS I L L) (hs : ∀ y ∈ ys, y.2.isSome = true) : lanesD I L L = some (curM ys) := by
 rw [lanesD_t L (fun o ho => by rw [← h] at ho; obtain ⟨y, hy, rfl⟩ := List.mem_map.1 ho; exact hs y hy), ← h]
 unfold curM
 rw [List.flatMap_map]
theorem curM_none {I : List Nat} {L : Nat} {pre : List Lx} (h : pre.map Prod.snd <+: lanesS I L L) (hs : ∃ y ∈ pre, y.2.isSome = false) : lanesD I L L = none := by
 obtain ⟨y, hy, hn⟩ := hs
 refine lanesD_f L (h.subset (List.mem_map.2 ⟨y, hy, ?_⟩))
 cases hy2 : y.2 with
 | none => rfl
 | some a => rw [hy2] at hn; cases hn
theorem lanes_OV {I : List Nat} {L : Nat} (hW : WL I) (hg : gOk (I.length : Nat) (L : Nat) = true) (hN : I.length ≤ 800) : ∀ {k : Nat} {ops : List Ox}, k ≤ L → lanesD I L k = some ops → OVs ops
 | 0, ops, _, h => by unfold lanesD at h; cases h; intro o ho; cases ho
 | k + 1, ops, hk, h => by
   unfold lanesD at h
   split at h
   ·rename_i a b h1 h2
    cases h
    intro o ho
    rcases List.mem_append.1 ho with ho | ho
    ·exact lanes_OV hW hg hN (by omega) h1 o ho
    ·exact (lane_bd hW hg (by omega) hN h2).2 o ho
   ·cases h
theorem mend_any (v : Value) (I : List Nat) (w : World) (hw : Lw w) (hW : WL I) (hv : KL .u64 w v I) (hN : I.length ≤ 800) :
 Calls Tryz.prog 19 #[v] w fun e w' => ∃ v', e = .returned (.tuple #[v', .int .i64 (if (mendD I).isSome = true then 0 else 7)]) ∧ OwnU w' w.heap.size v' ((mendD I).getD []) ∧ Below w.heap.size w w' := by
 have hD := fun w1 (hb : Below w.heap.size w w1) => dec_any v I w1 hW (KL.sl (hv.keep hb))
 obtain ⟨nn, hnn⟩ : ∃ n, I.length = n := ⟨_, rfl⟩
 have hb0 := Below.refl w.heap.size w
 cases hs : sOk I with
 | false =>
   have hno := lh (show mendD I = none from by unfold mendD poolB; rw [hs]; rfl)
   rw [hs] at hD
   replace hD := lh (fun w1 hb => show Calls Tryz.prog 49 #[v] w1 (fun e w' => e = .returned (.tuple #[.agg #[.int .i64 0, .int .i64 0], .int .i64 7]) ∧ Below w1.heap.size w1 w') from hD w1 hb)
   clear hs hv hW hw hN
   replace hnn := lh hnn
   refine callsIn_wide.1 (callsIn_of_wp_marks (n := 4) Tryz.func19 rfl trivial ?_ rfl)
   simp only [Tryz.ntmps19, List.size_toArray, List.length_cons, List.length_nil, Nat.reduceAdd, Nat.reduceSub, Array.replicate_succ, Array.replicate_zero, List.push_toArray, List.append_toArray, List.nil_append, List.cons_append]
   refine wpIn_wide.2 (Code.wp_mono (Q := noPan _) noPan_to ?_)
   go_wp2_with fail
   refine wp_scope_straight ?_
   go_wp2_with fail
   refine (hD.out _ hb0).mono ?_
   rintro e w1 ⟨rfl, hb1⟩
   have hB1 := hb1.alloc hb1.size (.cells #[.int .i64 0, .int .i64 0] 33)
   clear hD hb0
   go_wp2_with fail
   exact ⟨.tuple #[.slice none 0 0, .int .i64 7], by simp [results, Tryz.f19, go_sem], _, by rw [hno.out]; rfl, by rw [hno.out]; exact World.ownsRow_nil _ _ _ _, hB1⟩
 | true =>
   obtain ⟨L, hL⟩ : ∃ L, I.getD 3 0 = L := ⟨_, rfl⟩
   have hg := (gOk_pool hs).2
   rw [hL] at hg
   have hsz := pool_size hg
   have hRd := lh (fun w1 (hb : Below w.heap.size w w1) => readable_any v I (nn : Nat) (L : Nat) w1 (hw.keep hb) hW (hv.keep hb))
   have hre : readB I (nn : Nat) (L : Nat) = poolB I := by unfold readB; rw [hnn, hL, decide_eq_true (p := ((nn : Nat) : Int) = (nn : Nat) ∧ ((L : Nat) : Int) = (L : Nat)) ⟨rfl, rfl⟩, Bool.and_true]
   rw [hre] at hRd
   rw [hs, hL, hnn] at hD
   replace hD := lh (fun w1 hb => show Calls Tryz.prog 49 #[v] w1 (fun e w' => e = .returned (.tuple #[.agg #[.int .i64 (nn : Nat), .int .i64 (L : Nat)], .int .i64 0]) ∧ Below w1.heap.size w1 w') from hD w1 hb)
   cases hp : poolB I with
   | false =>
     have hno := lh (show mendD I = none from by unfold mendD; rw [hp]; rfl)
     rw [hp] at hRd
     clear hs hv hW hw hN hp hre hg hL hsz
     replace hnn := lh hnn
     refine callsIn_wide.1 (callsIn_of_wp_marks (n := 4) Tryz.func19 rfl trivial ?_ rfl)
     simp only [Tryz.ntmps19, List.size_toArray, List.length_cons, List.length_nil, Nat.reduceAdd, Nat.reduceSub, Array.replicate_succ, Array.replicate_zero, List.push_toArray, List.append_toArray, List.nil_append, List.cons_append]
     refine wpIn_wide.2 (Code.wp_mono (Q := noPan _) noPan_to ?_)
     go_wp2_with fail
     refine wp_scope_straight ?_
     go_wp2_with fail
     refine (hD.out _ hb0).mono ?_
     rintro e w1 ⟨rfl, hb1⟩
     have gG := HB.new w1 #[.int .i64 (nn : Nat), .int .i64 (L : Nat)] 33
     have hB1 := hb1.alloc hb1.size (.cells #[.int .i64 (nn : Nat), .int .i64 (L : Nat)] 33)
     obtain ⟨q0, q1⟩ := gG.c2
     clear hD hb0
     go_wp2_with fail
     refine (hRd.out _ hB1).mono ?_
     rintro e w2 ⟨rfl, hb2⟩
     have hB2 := hB1.trans (hb2.mono hB1.size)
     clear q0 q1 hRd gG
     go_wp2_with fail
     exact ⟨.tuple #[.slice none 0 0, .int .i64 7], by simp [results, Tryz.f19, go_sem], _, by rw [hno.out]; rfl, by rw [hno.out]; exact World.ownsRow_nil _ _ _ _, hB2⟩
   | true =>
     have hmd := lh (show mendD I = (match lanesD I L L with | none => none | some ops => some (restL (applyL I ops) L)) from by unfold mendD; rw [if_pos hp, hL]; rfl)
     have hOV := lh (fun ops (h : lanesD I L L = some ops) => lanes_OV hW hg hN (Nat.le_refl L) h)
     rw [hp] at hRd
     obtain ⟨g, off, cap, rfl, hcap, hgs⟩ := hv.addr hnn (by omega)
     have hAp := lh (fun ops u w1 (hb : Below w.heap.size w w1) (ho : OVs ops) (hlen : ops.length ≤ 100000) (hu : OPL w1 u ops) => apply_any (.slice (some ⟨g, off, none⟩) nn cap) u I ops w1 hW (by omega) ho hlen (hv.keep hb) hu)
     have hC := lh (fun w1 (hb : Below w.heap.size w w1) => And.intro (hw.keep hb) (hv.keep hb))
     have hWa := lh (fun ops (ho : OVs ops) => show WL (applyL I ops) from applyL_WL ho hW)
     have hLn := lh (fun ops => applyL_len ops I)
     have hL10 : L ≤ 64 := hsz.2.1
     clear hs hv hre hp hL
     refine callsIn_wide.1 (callsIn_of_wp_marks (n := 4) Tryz.func19 rfl trivial ?_ rfl)
     simp only [Tryz.ntmps19, List.size_toArray, List.length_cons, List.length_nil, Nat.reduceAdd, Nat.reduceSub, Array.replicate_succ, Array.replicate_zero, List.push_toArray, List.append_toArray, List.nil_append, List.cons_append]
     refine wpIn_wide.2 (Code.wp_mono (Q := noPan _) noPan_to ?_)
     go_wp2_with fail
     refine wp_scope_straight ?_
     go_wp2_with fail
     refine (hD.out _ hb0).mono ?_
     rintro e w1 ⟨rfl, hb1⟩
     have gG := HB.new w1 #[.int .i64 (nn : Nat), .int .i64 (L : Nat)] 33
     have hB1 := hb1.alloc hb1.size (.cells #[.int .i64 (nn : Nat), .int .i64 (L : Nat)] 33)
     obtain ⟨q0, q1⟩ := gG.c2
     clear hD hb0
     go_wp2_with fail
     refine (hRd.out _ hB1).mono ?_
     rintro e w2 ⟨rfl, hb2⟩
     have hB2 := hB1.trans (hb2.mono hB1.size)
     have gG2 := gG.keep hb2
     have hgl2 := gG2.lt
     clear q0 q1 hRd gG hb2
     obtain ⟨G4, hG4⟩ : ∃ G4, w1.heap.size = G4 := ⟨_, rfl⟩
     rw [hG4] at gG2 hgl2 ⊢
     clear hB1 hb1
     have e1 := bZ w2 (.cells #[.slice none 0 0] 35)
     have gG3 := gG2.keep e1
     have bO3 := HB.new w2 #[.slice none 0 0] 35
     have hB3 := hB2.trans (e1.mono hB2.size)
     have e2 := (Below.refl _ (w2.alloc (.cells #[.slice none 0 0] 35))).alloc (Nat.le_refl _) (.cells #[.bool true] 4)
     have gG4 := gG3.keep e2
     have bO4 := bO3.keep e2
     have bR4 := HB.new (w2.alloc (.cells #[.slice none 0 0] 35)) #[.bool true] 4
     have hB4 := hB3.trans (e2.mono hB3.size)
     have e12 := e1.trans (e2.mono e1.size)
     simp only [World.size_alloc] at bR4
     obtain ⟨q0, q1⟩ := gG4.c2
     clear gG3 bO3 e1 e2 hB3 gG2
     go_wp2_with fail
     refine wp_label ?_
     go_wp2_with fail
     refine (callsIn_wide.1 (lanes_in 3 (some ⟨g, off, none⟩) nn cap nn L _)).mono ?_
     rintro e w' ⟨rfl, rfl⟩
     clear q0 q1
     obtain ⟨w4, hw4⟩ : ∃ w4, (w2.alloc (.cells #[.slice none 0 0] 35)).alloc (.cells #[.bool true] 4) = w4 := ⟨_, rfl⟩
     have hs4 : w4.heap.size = w2.heap.size + 2 := by rw [← hw4]; simp
     rw [hw4] at gG4 bO4 bR4 hB4 e12 ⊢
     clear hw4
     have e3 := bZ w4 (.cells #[.slice (some ⟨g, off, none⟩) nn cap] 23)
     have bI5 := HB.new w4 #[.slice (some ⟨g, off, none⟩) nn cap] 23
     have e4 := (Below.refl _ (w4.alloc (.cells #[.slice (some ⟨g, off, none⟩) nn cap] 23))).alloc (Nat.le_refl _) (.cells #[.int .i64 (nn : Nat), .int .i64 (L : Nat)] 33)
     have bI6 := bI5.keep e4
     have bG6 := HB.new (w4.alloc (.cells #[.slice (some ⟨g, off, none⟩) nn cap] 23)) #[.int .i64 (nn : Nat), .int .i64 (L : Nat)] 33
     have gG6 := (gG4.keep e3).keep e4
     have bO6 := (bO4.keep e3).keep e4
     have bR6 := (bR4.keep e3).keep e4
     have e34 := e3.trans (e4.mono e3.size)
     have e16 := e12.trans (e34.mono e12.size)
     have hB6 := hB4.trans (e34.mono hB4.size)
     simp only [World.size_alloc] at bG6
     go_wp2_with fail
     refine (wpIn_wide (n := 4)).1 ?_
     obtain ⟨W0, hW0⟩ : ∃ W0, ((w4.alloc (.cells #[.slice (some ⟨g, off, none⟩) nn cap] 23)).alloc (.cells #[.int .i64 (nn : Nat), .int .i64 (L : Nat)] 33)) = W0 := ⟨_, rfl⟩
     have hs6 : W0.heap.size = w2.heap.size + 4 := by rw [← hW0]; simp; omega
     rw [hW0] at bI6 bG6 gG6 bO6 bR6 e16 hB6 ⊢
     clear hW0 e3 e4 bI5 gG4 bO4 bR4 hB4 e12 e34
     obtain ⟨B, hBB⟩ : ∃ B, w2.heap.size = B := ⟨_, rfl⟩
     rw [hs4, hBB] at bI6 bG6
     rw [hBB] at bO6 bR6 e16 hs6 hs4 hgl2 ⊢
     have hwB : w.heap.size ≤ B := by rw [← hBB]; exact hB2.size
     replace hnn := lh hnn
     have bO7 : Boxed W0 B 35 (.slice none 0 0) := bO6
     have hLI := lh (fun ys (h : List.map Prod.snd (ys : List Lx) = lanesS I L L) => show ys.length = L from by have := congrArg List.length h; rw [List.length_map, lanesS_len] at this; exact this)
     refine wpIn_rangeFunc_told rfl (by omega) (gf := 81) (lb := #[.pointer (some ⟨B + 2 + 1, 0, none⟩), .pointer (some ⟨B + 2, 0, none⟩)]) rfl trivial (enters_of Tryz.func81 (by kernel_rfl) rfl)
      (lns_told 3 (by omega) B (B + 2 + 1) (B + 2) B L (.slice (some ⟨g, off, none⟩) nn cap) I hW hg hN W0 (by omega) (ownLt_of bO7 (fun b q => by simp [Value.ownBlock] at q)) (by rw [hnn.out]; exact bG6) bI6 (by omega) (by omega) (fun q => by have := (ownAt_iff bO7).1 q; simp [Value.ownBlock] at this) (fun q => by have := (ownAt_iff bO7).1 q; simp [Value.ownBlock] at this) (by omega) (fun w1 hb => hC.out w1 (hB6.trans (hb.mono hwB))))
      kp_t (kp_b (by omega) (by omega)) (Below.refl _ _) (fun _ => rfl)
      (fun pre W => ∃ v0, OI B B w2 (curM pre) W v0 ∧ (∀ y ∈ pre, y.2.isSome = true) ∧ (curM pre).length ≤ 800 * pre.length ∧ HB W G4 #[.int .i64 (nn : Nat), .int .i64 (L : Nat)] 33 ∧ HB W (B + 1) #[.bool true] 4)
      (fun c pre W => c = .exit 0 ∧ (∃ y ∈ pre, y.2.isSome = false) ∧ HB W (B + 1) #[.bool false] 4 ∧ Below w.heap.size w W)
      (fun s A1 B1 row hs hgr hr => by
        obtain ⟨v0, h1, h2, h3, h4, h5⟩ := hs
        exact ⟨v0, h1.walk hgr (ownFrom_below (β := Unit) (n₀ := B) (by omega) (by omega) () A1 B1 row h1.B hgr hr) (fun r e => (hr r e).2), h2, h3, h4.walk hgr (fun r e => (hr r e).2), h5.walk hgr (fun r e => (hr r e).2)⟩)
      (fun c s A1 B1 row hs hgr hr => by
        obtain ⟨h1, h2, h3, h4⟩ := hs
        exact ⟨h1, h2, h3.walk hgr (fun r e => (hr r e).2), ownFrom_below (β := Unit) (Nat.le_refl w.heap.size) (by omega) () A1 B1 row h4 hgr hr⟩)
      ⟨_, ⟨bO7, OwnE.nil _ _ _ _ _, e16⟩, (fun y hy => by cases hy), Nat.zero_le _, gG6, bR6⟩
      (fun y a' W => OPL W y.1 (y.2.getD []) ∧ (y.2.getD []).length ≤ 800 ∧ a' = { tmps := #[.slice (some ⟨g, off, none⟩) nn cap, undef, .slice none 0 0, .int .i64 0, .pointer (some ⟨G4, 0, none⟩), .int .i64 0, .pointer (some ⟨B, 0, none⟩), .pointer (some ⟨B + 1, 0, none⟩), y.1, .bool y.2.isSome, undef, .tuple #[.agg #[.int .i64 (nn : Nat), .int .i64 (L : Nat)], .int .i64 0], .slice (some ⟨g, off, none⟩) nn cap, .tuple #[.agg #[.int .i64 (nn : Nat), .int .i64 (L : Nat)], .int .i64 0], .agg #[.int .i64 (nn : Nat), .int .i64 (L : Nat)], .int .i64 0, .int .i64 0, .bool false, .bool false, .slice (some ⟨g, off, none⟩) nn cap, .agg #[.int .i64 (nn : Nat), .int .i64 (L : Nat)], .bool true, .bool false, .bool false, .slice (some ⟨g, off, none⟩) nn cap, .agg #[.int .i64 (nn : Nat), .int .i64 (L : Nat)], .func (.func 81) #[] #[.pointer (some ⟨B + 2 + 1, 0, none⟩), .pointer (some ⟨B + 2, 0, none⟩)], y.1, .bool y.2.isSome, undef, undef, undef, undef, undef, undef, undef, undef, undef, undef, undef, undef, undef, undef], defers := [] })
      (fun y a' _ X Y row hs hgr hr => ⟨EL.walk opE_len hs.1 hgr (fun r e => (hr r e).2), hs.2.1, hs.2.2⟩)
      ?assign ?body ?done ?stop
     case assign =>
      rintro l pre y W K hNI hTT hK2
      obtain ⟨yv, yo⟩ := y
      dsimp only at *
      gi_wp2
      exact hK2 _ _ ((KeepsOthers.refl _).from _) (by obtain ⟨v0, hOI, _⟩ := hNI; exact kp_of (Below.refl _ _) (Nat.le_of_lt hOI.b.lt) hOI.b.lt) hNI ⟨hTT.1, hTT.2, rfl⟩
     case body =>
      rintro l pre y a' W ⟨v0, hOI, hal, hle, hG, hR⟩ ⟨hO, hl8, rfl⟩ hlt
      have hsn := lh (curM_snoc pre y)
      obtain ⟨yv, yo⟩ := y
      dsimp only at *
      cases yo with
      | none =>
        have hR9 : Boxed W (B + 1) 4 (.bool true) := hR
        have f0 := hR9.cell
        have f1 := hR9.frozen
        have e1 : HB (W.setCell ⟨B + 1, 0, none⟩ (.bool false)) (B + 1) #[.bool false] 4 := hR9.set (.bool false)
        have hBe := (hB2.trans (hOI.B.mono hwB)).setCell (p := ⟨B + 1, 0, none⟩) (by simp; omega) (.bool false)
        clear hOI hG hR hO hl8 hR9
        gi_wp2
        exact ⟨(KeepsOthers.setCell _ _ _).from _, rfl, ⟨_, List.mem_append_right _ (List.mem_singleton.2 rfl), rfl⟩, e1, hBe⟩
      | some ops =>
        simp only [Option.getD_some, Option.isSome_some] at *
        obtain ⟨A8, m8, c8, w8, hrun, hbv, hO8, hk8, hkp8, hoth⟩ := hOI.addL (Nat.le_refl _) (by omega) (by omega) hO (by omega)
        have hbc := hOI.b.cell
        have hbd := hbv.cell
        have hbf := hbv.frozen
        have hG8 := hoth _ _ _ hG (by omega) (by decide)
        have hR8 := hoth _ _ _ hR (by omega) (by decide)
        rw [← hsn.out] at hO8
        clear hOI hG hR hO hoth hbv
        gi_wp2_with (gi_at_builtin; refine wpListIn_append_run rfl _ _ 35 rfl _ _ _ rfl rfl hrun ?_)
        exact ⟨hk8.from _, hkp8, _, hO8, fun y hy => by
         rcases List.mem_append.1 hy with hy | hy
         ·exact hal y hy
         ·rw [List.mem_singleton] at hy; rw [hy]; rfl, by rw [hsn.out, List.length_append, List.length_append]; simp; omega, hG8, hR8⟩
     case done =>
      rintro D ys W hD hys ⟨v0, hOI, hal, hle, hG, hR⟩ hKD
      have hops := curM_all hys hal
      have hyl := hLI.out ys hys
      obtain ⟨ops, hop⟩ : ∃ ops, curM ys = ops := ⟨_, rfl⟩
      rw [hop] at hops hle hOI
      have hyes := lh (show mendD I = some (restL (applyL I ops) L) from by rw [hmd.out, hops])
      have hOVo := hOV.out ops hops
      have hWo := hWa.out ops hOVo
      have hlo := hLn.out ops
      rw [hnn.out] at hlo
      have hBW := hB2.trans (hOI.B.mono hwB)
      have hApp := hAp.out ops v0 W hBW hOVo (by rw [hyl] at hle; omega) (hOI.o.el opE_len)
      have f0 := (show Boxed W (B + 1) 4 (.bool true) from hR).cell
      have b0 := hOI.b.cell
      have hDl := (Array.getElem?_eq_some_iff.1 hKD).1
      have hg2 : gOk (nn : Nat) (L : Nat) = true := by rw [← hnn.out]; exact hg
      replace hOVo := lh hOVo
      replace hop := lh hop
      replace hops := lh hops
      replace hyl := lh hyl
      replace hlo := lh hlo
      clear hal hle hys hOI hR
      go_wp2_with fail
      refine hApp.mono ?_
      rintro e w7 ⟨v7, rfl, hU7, hb7⟩
      have hB7 := hBW.trans (hb7.mono hBW.size)
      have hKD7 := (hb7.block D hDl).trans hKD
      obtain ⟨A7, c7, hv7, hf7⟩ := hU7.form
      rw [hlo.out] at hv7 hf7
      subst hv7
      obtain ⟨B7, rfl, hB7l, hB7u⟩ := hf7 (by have := hnn.out; omega)
      have hRs := rest_any B7 nn c7 (applyL I ops) L w w7 hw hB7 hWo hlo.out (hU7.mono (by have := hBW.size; omega)) hg2
      obtain ⟨q0, q1⟩ := (hG.keep hb7).c2
      have hDB : ¬ D = B7 := by omega
      clear b0 f0 hApp hU7 hG hb7
      go_wp2_with fail
      refine hRs.mono ?_
      rintro e w8 ⟨rfl, hU8, hc8⟩
      have hDl7 := (Array.getElem?_eq_some_iff.1 hKD7).1
      have hKD8 := (hc8.block D hDl7 hDB).trans hKD7
      have hB8 := hB7.trans (hc8.below (N := w.heap.size) (fun k hk => by rw [hk]; have := hBW.size; omega) hB7.size)
      have ho9 := hU8.walk (grownBy_putObj' _ D (.deferred none)) (fun r e => by cases e; exact ⟨_, hKD8, rfl⟩)
      have hBf := hB8.trans (belowK_b (w := w) (Nat.le_refl _) _ D _ (.deferred none) (by omega) hKD8 rfl rfl)
      clear q0 q1 hRs hU8 hc8
      go_wp2_with fail
      refine ⟨by simp, .inl ⟨_, _, rfl, run_takeDeferred hKD8, ?_⟩⟩
      refine ⟨.tuple #[.slice (some ⟨B7, 0, none⟩) nn c7, .int .i64 0], by simp [results, Tryz.f19, go_sem], .slice (some ⟨B7, 0, none⟩) nn c7, by rw [hyes.out]; rfl, by rw [hyes.out]; exact ho9, hBf⟩
     case stop =>
      rintro D cc pre W hD hpre ⟨rfl, hex, hR, hB9⟩ hKD
      have hno := lh (show mendD I = none from by rw [hmd.out, curM_none hpre hex])
      have f0 := (show Boxed W (B + 1) 4 (.bool false) from hR).cell
      have hBf := hB9.trans (belowK_b (w := w) (Nat.le_refl _) _ D _ (.deferred none) (by omega) hKD rfl rfl)
      clear hpre hex hR hB9
      refine wpIn_exit ?_
      go_wp2_with fail
      refine ⟨by simp, .inl ⟨_, _, rfl, run_takeDeferred hKD, ?_⟩⟩
      refine ⟨.tuple #[.slice none 0 0, .int .i64 7], by simp [results, Tryz.f19, go_sem], .slice none 0 0, by rw [hno.out]; rfl, by rw [hno.out]; exact World.ownsRow_nil _ _ _ _, hBf⟩
end Go.Proofs.YtkdhdibjbabgfaaGreatDoor
