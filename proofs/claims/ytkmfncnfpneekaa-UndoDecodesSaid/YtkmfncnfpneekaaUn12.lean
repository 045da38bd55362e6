/-
  Package undo: the document's Decode.
-/
import Derived.Test.YtkmfncnfpneekaaUn11
set_option linter.unusedVariables false
set_option linter.unusedSimpArgs false
namespace Go.Proofs.Ytkmfncnfpneekaa
open Go.RowKit Go.ChangeShapes Go.WideShapes Go.Deep


set_option maxRecDepth 100000 in
set_option maxHeartbeats 8000000 in
theorem refDecode_any (gn : Nat) (v : Value) (ws : List Nat) (w : World) (hgn : gn < 18446744073709551616) (hW : WL ws) (hlen : ws.length ≤ 800) (hv : KL .u64 w v ws) :
    Calls Try.prog 17 #[.int .u64 (gn : Nat), v] w fun e w' => ∃ v', e = .returned (.tuple #[v', .bool (decL gn ws).isSome]) ∧ EN w' v' ((decL gn ws).getD []) ∧ Below w.heap.size w w' := by
  obtain ⟨n, hn⟩ : ∃ n, ws.length = n := ⟨_, rfl⟩
  obtain ⟨A, cap, rfl, hC⟩ := hv.form hn
  obtain ⟨i0, hi, hz0, hz1, hz2⟩ := info_parts infoU64
  have hM0 : evs gn ws = (([] : List Ex).map px).map some ++ evs gn (ws.drop 0) := rfl
  have hkv := Lib.hid hv
  have hn8 : n ≤ 800 := by omega
  replace hM0 := Lib.hid hM0
  replace hC := Lib.hid hC
  replace hn := Lib.hid hn
  replace hW := Lib.hid hW
  clear hlen hv
  go_enter Try.func17, Try.ntmps17
  go_wp2_with fail
  go_loopw [6, 7] (fun vo i wr => ∃ (k : Nat) (xs : List Ex) (Ao : Option Addr) (mo co : Nat), k ≤ n ∧ i = .int .i64 k ∧ vo = .slice Ao mo co ∧ mo = xs.length ∧ xs.length ≤ k ∧ Hid (evs gn ws = (xs.map px).map some ++ evs gn (ws.drop k)) ∧ OD w.heap.size xs (.slice Ao mo co) wr ∧ Below w.heap.size w wr) (fun _ i _ => n + 1 - (intOf i).toNat)
  case atStart => exact ⟨0, [], none, 0, 0, Nat.zero_le _, rfl, rfl, rfl, Nat.zero_le _, hM0, ⟨OwnE.nil _ _ _ _ _, fun x hx => by simp at hx⟩, Below.refl _ _⟩
  case round =>
    obtain ⟨k, xs, Ao, mo, co, hk, rfl, rfl, hmo, hxk, hM, hD, hB⟩ := hrel
    clear hM0
    replace hmo := Lib.hid hmo
    by_cases hlt : k < n
    · obtain ⟨g, off, rfl, hcap, hg, c0⟩ := hC.out wr k hB hlt
      have hlt' : (k : Int) < (n : Int) := by omega
      obtain ⟨rs, hrs⟩ : ∃ rs, ws.drop k = rs := ⟨_, rfl⟩
      have hrl : rs.length = n - k := by rw [← hrs, List.length_drop, hn.out]
      have hr0 : ws.getD k 0 = rs.getD 0 0 := by rw [← hrs, List.getD_eq_getElem?_getD, List.getD_eq_getElem?_getD, List.getElem?_drop]; simp
      have hWr : WL rs := fun y hy => hW.out y (by rw [← hrs] at hy; exact List.mem_of_mem_drop hy)
      rw [hr0] at c0
      rw [hrs] at hM
      have hCx := Lib.hid (fun (w' : World) (hb : Below wr.heap.size wr w') => show w'.cell? ⟨g, off + k, none⟩ = some (.int .u64 (rs.getD 0 0 : Nat)) from cellK c0 hb)
      have hx := hWr.at 0 (by omega)
      have hat : atN rs < 1048576 := Nat.mod_lt _ (by decide)
      have hma : manyN rs < 65536 := Nat.mod_lt _ (by decide)
      have f1 : ((rs.getD 0 0 : Nat) : Int) / 1048576 % 65536 = (manyN rs : Int) := by unfold manyN; omega
      have f1' : (((rs.getD 0 0 : Nat) : Int).tdiv 1048576).tmod 65536 = (manyN rs : Int) := by
        rw [Int.tdiv_eq_ediv_of_nonneg (by omega), Int.tmod_eq_emod_of_nonneg (by omega)]; exact f1
      have f2 : ((rs.getD 0 0 : Nat) : Int) % 1048576 = (atN rs : Int) := by unfold atN; omega
      have f2' : ((rs.getD 0 0 : Nat) : Int).tmod 1048576 = (atN rs : Int) := by
        rw [Int.tmod_eq_emod_of_nonneg (by omega)]; exact f2
      have f3 : IntKind.i64.wrap (manyN rs : Int) = (manyN rs : Int) := by rw [IntKind.wrap_i64]; omega
      have f4 : IntKind.i64.wrap (atN rs : Int) = (atN rs : Int) := by rw [IntKind.wrap_i64]; omega
      have hq1 := Lib.hid (fun (h : tkB gn rs = false) => decL_none hM.out (by omega) h)
      by_cases hfit : manyN rs + 2 ≤ rs.length
      · have hq2 := Lib.hid (fun h => tkB_enc (gn := gn) hfit h)
        have hadv := Lib.hid (fun (h : tkB gn rs = true) => evs_t (by omega) h)
        have hpe := Lib.hid (show peN rs = (((atN rs : Nat) : Int), (rs.drop 1).take (manyN rs)) from rfl)
        have hos : ((rs.drop 1).take (manyN rs)).length = manyN rs := by rw [List.length_take, List.length_drop]; omega
        have hWo : WL ((rs.drop 1).take (manyN rs)) := fun y hy => hWr y (List.mem_of_mem_drop (List.mem_of_mem_take hy))
        have hmm : manyN rs ≤ 1000000 := by omega
        have hKu := (fun (w' : World) (hb : Below wr.heap.size wr w') => show KL .u64 w' (.slice (if cap = k + 1 then some ⟨g, off, none⟩ else (some (⟨g, off, none⟩ : Addr)).map (·.add ((k + 1) * 1))) (k + 1 + manyN rs - (k + 1)) (cap - (k + 1))) ((rs.drop 1).take (manyN rs)) from by
          have q := (hkv.out.keep (hB.trans (hb.mono hB.size))).mid (k + 1) (manyN rs) (by omega)
          rw [show rs.drop 1 = ws.drop (k + 1) from by rw [← hrs, List.drop_drop]]
          exact q)
        have hKw := Lib.hid (fun (w' : World) (hb : Below wr.heap.size wr w') => show KL .u64 w' (.slice (if cap = k then some ⟨g, off, none⟩ else (some (⟨g, off, none⟩ : Addr)).map (·.add (k * 1))) (k + (manyN rs + 2) - k) (cap - k)) (rs.take (manyN rs + 2)) from by
          have q := (hkv.out.keep (hB.trans (hb.mono hB.size))).mid k (manyN rs + 2) (by omega)
          rwa [hrs] at q)
        have hs1 := run_slice_mid (P := Try.prog) (ty := 23) Try.underlying23 hi hz1 (some ⟨g, off, none⟩) n cap (k + 1) (k + 1 + manyN rs) (by omega) (by omega)
        have hs2 := run_slice_mid (P := Try.prog) (ty := 23) Try.underlying23 hi hz1 (some ⟨g, off, none⟩) n cap k (k + (manyN rs + 2)) (by omega) (by omega)
        have hdd : Hid (rs.drop (manyN rs + 2) = ws.drop (k + (manyN rs + 2))) := by show _ = _; rw [← hrs, List.drop_drop]
        have hfit2 : k + (manyN rs + 2) ≤ n := by omega
        have htl : (rs.take (manyN rs + 2)).length = manyN rs + 2 := by rw [List.length_take]; omega
        have hno := Lib.hid (fun (h : canB (atN rs) (manyN rs) = false) => show tkB gn rs = false from by unfold tkB; rw [h]; rfl)
        generalize rs.drop (manyN rs + 2) = rs2 at *
        generalize rs.take (manyN rs + 2) = again at *
        generalize peN rs = pe at *
        generalize (rs.drop 1).take (manyN rs) = os at *
        generalize rs.getD 0 0 = x at *
        generalize tkB gn rs = tk at *
        generalize evs gn rs = er at *
        generalize atN rs = a at *
        generalize manyN rs = mm at *
        clear hr0 hWr hfit hrl hrs
        rw [show ((k + 1 : Nat) : Int) = (k : Int) + 1 from by omega, show ((k + 1 + mm : Nat) : Int) = (k : Int) + 1 + (mm : Int) from by omega, show k + 1 + mm - (k + 1) = mm from by omega] at hs1
        rw [show ((k + (mm + 2) : Nat) : Int) = (k : Int) + (mm : Int) + 2 from by omega, show k + (mm + 2) - k = mm + 2 from by omega] at hs2
        rw [show k + 1 + mm - (k + 1) = mm from by omega] at hKu
        rw [show k + (mm + 2) - k = mm + 2 from by omega] at hKw
        generalize (if cap = k + 1 then some (⟨g, off, none⟩ : Addr) else (some (⟨g, off, none⟩ : Addr)).map (·.add ((k + 1) * 1))) = Au at *
        generalize (if cap = k then some (⟨g, off, none⟩ : Addr) else (some (⟨g, off, none⟩ : Addr)).map (·.add (k * 1))) = Aw at *
        generalize cap - (k + 1) = cu at *
        generalize cap - k = cw at *
        have hQ := Q7.start wr
        have g1 : ¬ ((n : Int) < (k : Int) + (mm : Int) + 2) := by omega
        have hbs := hB.size
        have wa : IntKind.i64.wrap ((k : Int) + 1) = (k : Int) + 1 := by rw [IntKind.wrap_i64]; omega
        have wb : IntKind.i64.wrap ((k : Int) + 1 + (mm : Int)) = (k : Int) + 1 + (mm : Int) := by rw [IntKind.wrap_i64]; omega
        have wc : IntKind.i64.wrap ((k : Int) + (mm : Int)) = (k : Int) + (mm : Int) := by rw [IntKind.wrap_i64]; omega
        have wd : IntKind.i64.wrap ((k : Int) + (mm : Int) + 2) = (k : Int) + (mm : Int) + 2 := by rw [IntKind.wrap_i64]; omega
        replace htl := Lib.hid htl
        replace hWo := Lib.hid hWo
        go_wp2_with fail
        refine wp_region_tail (S := (fun w' => Below wr.heap.size wr w')) (n := 18) (by kernel_rfl) ?_ (fun hHeld hInv => ?_) (by decide)
        · (try dsimp only)
          exact hQ.bel
        refine takeS 0 (v := ?_) (tailAt (by kernel_rfl)) hInv (by decide) rfl (by kernel_rfl) (by kernel_rfl) (by kernel_rfl) (fun _ _ _ h => h) (by rfl) (by assumption) ?_ (fun hInv2 => ?_)
        rotate_left
        · (intro w hSw; (try dsimp only at hSw); have c0 := hCx.out w hSw; go_simp <;> with_reducible rfl)
        clear hInv
        have hInv := hInv2
        clear hInv2
        try simp only [Act.put, List.setIfInBounds_toArray, List.set_cons_zero, List.set_cons_succ] at hInv ⊢
        refine takeS 1 (v := ?_) (tailAt (by kernel_rfl)) hInv (by decide) rfl (by kernel_rfl) (by kernel_rfl) (by kernel_rfl) (fun _ _ _ h => h) (by rfl) (by assumption) ?_ (fun hInv2 => ?_)
        rotate_left
        · (intro w hSw; (try dsimp only at hSw); have c0 := hCx.out w hSw; go_simp <;> with_reducible rfl)
        clear hInv
        have hInv := hInv2
        clear hInv2
        try simp only [Act.put, List.setIfInBounds_toArray, List.set_cons_zero, List.set_cons_succ] at hInv ⊢
        refine takeS 2 (v := ?_) (tailAt (by kernel_rfl)) hInv (by decide) rfl (by kernel_rfl) (by kernel_rfl) (by kernel_rfl) (fun _ _ _ h => h) (by rfl) (by assumption) ?_ (fun hInv2 => ?_)
        rotate_left
        · (intro w hSw; (try dsimp only at hSw); have c0 := hCx.out w hSw; go_simp <;> with_reducible rfl)
        clear hInv
        have hInv := hInv2
        clear hInv2
        try simp only [Act.put, List.setIfInBounds_toArray, List.set_cons_zero, List.set_cons_succ] at hInv ⊢
        refine takeS 3 (v := ?_) (tailAt (by kernel_rfl)) hInv (by decide) rfl (by kernel_rfl) (by kernel_rfl) (by kernel_rfl) (fun _ _ _ h => h) (by rfl) (by assumption) ?_ (fun hInv2 => ?_)
        rotate_left
        · (intro w hSw; (try dsimp only at hSw); have c0 := hCx.out w hSw; go_simp <;> with_reducible rfl)
        clear hInv
        have hInv := hInv2
        clear hInv2
        try simp only [Act.put, List.setIfInBounds_toArray, List.set_cons_zero, List.set_cons_succ] at hInv ⊢
        refine takeS 4 (v := ?_) (tailAt (by kernel_rfl)) hInv (by decide) rfl (by kernel_rfl) (by kernel_rfl) (by kernel_rfl) (fun _ _ _ h => h) (by rfl) (by assumption) ?_ (fun hInv2 => ?_)
        rotate_left
        · (intro w hSw; (try dsimp only at hSw); have c0 := hCx.out w hSw; go_simp <;> with_reducible rfl)
        clear hInv
        have hInv := hInv2
        clear hInv2
        try simp only [Act.put, List.setIfInBounds_toArray, List.set_cons_zero, List.set_cons_succ] at hInv ⊢
        refine takeS 5 (v := ?_) (tailAt (by kernel_rfl)) hInv (by decide) rfl (by kernel_rfl) (by kernel_rfl) (by kernel_rfl) (fun _ _ _ h => h) (by rfl) (by assumption) ?_ (fun hInv2 => ?_)
        rotate_left
        · (intro w hSw; (try dsimp only at hSw); have c0 := hCx.out w hSw; go_simp <;> with_reducible rfl)
        clear hInv
        have hInv := hInv2
        clear hInv2
        try simp only [Act.put, List.setIfInBounds_toArray, List.set_cons_zero, List.set_cons_succ] at hInv ⊢
        refine takeS 7 (v := ?_) (tailAt (by kernel_rfl)) hInv (by decide) rfl (by kernel_rfl) (by kernel_rfl) (by kernel_rfl) (fun _ _ _ h => h) (by rfl) (by assumption) ?_ (fun hInv2 => ?_)
        rotate_left
        · (intro w hSw; (try dsimp only at hSw); have c0 := hCx.out w hSw; go_simp <;> with_reducible rfl)
        clear hInv
        have hInv := hInv2
        clear hInv2
        try simp only [Act.put, List.setIfInBounds_toArray, List.set_cons_zero, List.set_cons_succ] at hInv ⊢
        refine takeS 8 (v := ?_) (tailAt (by kernel_rfl)) hInv (by decide) rfl (by kernel_rfl) (by kernel_rfl) (by kernel_rfl) (fun _ _ _ h => h) (by rfl) (by assumption) ?_ (fun hInv2 => ?_)
        rotate_left
        · (intro w hSw; (try dsimp only at hSw); have c0 := hCx.out w hSw; go_simp <;> with_reducible rfl)
        clear hInv
        have hInv := hInv2
        clear hInv2
        try simp only [Act.put, List.setIfInBounds_toArray, List.set_cons_zero, List.set_cons_succ] at hInv ⊢
        refine takeS 9 (v := ?_) (tailAt (by kernel_rfl)) hInv (by decide) rfl (by kernel_rfl) (by kernel_rfl) (by kernel_rfl) (fun _ _ _ h => h) (by rfl) (by assumption) ?_ (fun hInv2 => ?_)
        rotate_left
        · (intro w hSw; (try dsimp only at hSw); have c0 := hCx.out w hSw; go_simp <;> with_reducible rfl)
        clear hInv
        have hInv := hInv2
        clear hInv2
        try simp only [Act.put, List.setIfInBounds_toArray, List.set_cons_zero, List.set_cons_succ] at hInv ⊢
        refine takeS 10 (v := ?_) (tailAt (by kernel_rfl)) hInv (by decide) rfl (by kernel_rfl) (by kernel_rfl) (by kernel_rfl) (fun _ _ _ h => h) (by rfl) (by assumption) ?_ (fun hInv2 => ?_)
        rotate_left
        · (intro w hSw; (try dsimp only at hSw); have c0 := hCx.out w hSw; go_simp <;> with_reducible rfl)
        clear hInv
        have hInv := hInv2
        clear hInv2
        try simp only [Act.put, List.setIfInBounds_toArray, List.set_cons_zero, List.set_cons_succ] at hInv ⊢
        refine takeS 11 (v := ?_) (tailAt (by kernel_rfl)) hInv (by decide) rfl (by kernel_rfl) (by kernel_rfl) (by kernel_rfl) (fun _ _ _ h => h) (by rfl) (by assumption) ?_ (fun hInv2 => ?_)
        rotate_left
        · (intro w hSw; (try dsimp only at hSw); have c0 := hCx.out w hSw; go_simp <;> with_reducible rfl)
        clear hInv
        have hInv := hInv2
        clear hInv2
        try simp only [Act.put, List.setIfInBounds_toArray, List.set_cons_zero, List.set_cons_succ] at hInv ⊢
        refine takeS 12 (v := ?_) (tailAt (by kernel_rfl)) hInv (by decide) rfl (by kernel_rfl) (by kernel_rfl) (by kernel_rfl) (fun _ _ _ h => h) (by rfl) (by assumption) ?_ (fun hInv2 => ?_)
        rotate_left
        · (intro w hSw; (try dsimp only at hSw); have c0 := hCx.out w hSw; go_simp <;> with_reducible rfl)
        clear hInv
        have hInv := hInv2
        clear hInv2
        try simp only [Act.put, List.setIfInBounds_toArray, List.set_cons_zero, List.set_cons_succ] at hInv ⊢
        refine takeS 13 (v := ?_) (tailAt (by kernel_rfl)) hInv (by decide) rfl (by kernel_rfl) (by kernel_rfl) (by kernel_rfl) (fun _ _ _ h => h) (by rfl) (by assumption) ?_ (fun hInv2 => ?_)
        rotate_left
        · (intro w hSw; (try dsimp only at hSw); have c0 := hCx.out w hSw; go_simp <;> with_reducible rfl)
        clear hInv
        have hInv := hInv2
        clear hInv2
        try simp only [Act.put, List.setIfInBounds_toArray, List.set_cons_zero, List.set_cons_succ] at hInv ⊢
        refine takeS 14 (v := ?_) (tailAt (by kernel_rfl)) hInv (by decide) rfl (by kernel_rfl) (by kernel_rfl) (by kernel_rfl) (fun _ _ _ h => h) (by rfl) (by assumption) ?_ (fun hInv2 => ?_)
        rotate_left
        · (intro w hSw; (try dsimp only at hSw); have c0 := hCx.out w hSw; go_simp <;> with_reducible rfl)
        clear hInv
        have hInv := hInv2
        clear hInv2
        try simp only [Act.put, List.setIfInBounds_toArray, List.set_cons_zero, List.set_cons_succ] at hInv ⊢
        refine twoS 6 17 hInv (by decide) (by decide) rfl rfl (by kernel_rfl) (fun K hK => ?_) (fun K hK => ?_)
        · go_simp
          replace hQ := hQ.row0
          (try simp only [World.size_alloc, World.size_drew] at hQ)
          refine hK.out _ _ ?_ (fun hHeld2 hInv2 => ?_)
          · (try dsimp only)
            exact hQ.bel
          clear hK K hHeld hInv
          have hHeld := hHeld2
          have hInv := hInv2
          clear hHeld2 hInv2
          try simp only [Act.put, List.setIfInBounds_toArray, List.set_cons_zero, List.set_cons_succ] at hInv ⊢
          refine twoS 15 17 hInv (by decide) (by decide) rfl rfl (by kernel_rfl) (fun K hK => ?_) (fun K hK => ?_)
          · rw [if_pos (by rfl)]
            obtain ⟨A5, c5, w', hrun, hQ2⟩ := hQ.row1 hKu hos hmm
            (try simp only [World.size_alloc, World.size_drew] at hrun hQ2)
            refine wp_append_run _ _ _ _ rfl _ _ _ rfl rfl hrun ?_
            clear hrun hQ
            have hQ := hQ2
            clear hQ2
            refine hK.out _ _ ?_ (fun hHeld2 hInv2 => ?_)
            · (try dsimp only)
              exact hQ.bel
            clear hK K hHeld hInv
            have hHeld := hHeld2
            have hInv := hInv2
            clear hHeld2 hInv2
            try simp only [Act.put, List.setIfInBounds_toArray, List.set_cons_zero, List.set_cons_succ] at hInv ⊢
            refine takeS 16 (v := ?_) (tailAt (by kernel_rfl)) hInv (by decide) rfl (by kernel_rfl) (by kernel_rfl) (by kernel_rfl) (fun _ _ _ h => h) (by rfl) (by assumption) ?_ (fun hInv2 => ?_)
            rotate_left
            · (intro w hSw; (try dsimp only at hSw); have c0 := hCx.out w hSw; go_simp <;> with_reducible rfl)
            clear hInv
            have hInv := hInv2
            clear hInv2
            try simp only [Act.put, List.setIfInBounds_toArray, List.set_cons_zero, List.set_cons_succ] at hInv ⊢
            refine oneS 17 hInv (by decide) rfl (by kernel_rfl) (fun K hK => ?_)
            go_simp
            replace hQ := hQ.blk0
            (try simp only [World.size_alloc, World.size_drew] at hQ)
            refine hK.out _ _ ?_ (fun hHeld2 hInv2 => ?_)
            · (try dsimp only)
              exact hQ.bel
            clear hK K hHeld hInv
            have hHeld := hHeld2
            have hInv := hInv2
            clear hHeld2 hInv2
            try simp only [Act.put, List.setIfInBounds_toArray, List.set_cons_zero, List.set_cons_succ] at hInv ⊢
            refine lastS 18 rfl (by decide) (by kernel_rfl) (fun K hK => ?_)
            obtain ⟨⟨h0, h1⟩, ⟨hf0, hf1⟩, w9, hw9, hX, hO9, hB9⟩ := hQ.last (a : Nat)
            go_simp
            (first | rw [← hw9] | rw [show w'.alloc (.cells #[.int .i64 ((a : Nat) : Int), .slice A5 mm c5] (25 : Nat)) = w9 from by rw [hw9]; simp [go_sem]])
            clear hw9 h0 h1 hf0 hf1 hQ
            refine hK.out _ _ ?_
            clear hK K
            try simp only [Act.put, List.setIfInBounds_toArray, List.set_cons_zero, List.set_cons_succ]
            refine wpAnyS_done (by kernel_rfl) ?_ _
            obtain ⟨x0, x1⟩ := hX.c2
            have hBw := hB.trans (hB9.mono hbs)
            clear hInv hHeld
            cases hcb : canB (a : Int) (mm : Int) with
            | false =>
              have hR := Lib.hid (hq1.out (hno.out hcb))
              have hEn := Lib.hid (fun A c w => refEncode_no (gn : Nat) (a : Int) A mm c w hcb)
              clear hq1 hq2 hadv hpe hno hcb hM hKw hs2
              go_wp2_with (go_at_call 12; refine (hEn.out _ _ _).mono ?_; rintro e w10 ⟨rfl, hb10⟩; replace hBw := hBw.trans (hb10.mono hBw.size))
              go_ret2
              exact ⟨_, by rw [hR.out]; rfl, by rw [hR.out]; exact EN.nil _, hBw⟩
            | true =>
              obtain ⟨hcb1, hcb2, hcb3, hcb4⟩ := canB_iff.1 hcb
              have hm1 : 1 ≤ mm := by omega
              have hEn := Lib.hid (fun A c w (h : KL .u64 w (.slice A mm c) os) => refEncode_yes gn ((a : Int), .slice A mm c, os) w hgn h hWo.out (by show os.length ≤ 800; omega) (by unfold rightB; show canB (a : Int) (os.length : Nat) = true; rw [hos]; exact hcb))
              have hq3 := Lib.hid (hq2.out hcb)
              have hel : Hid ((encW gn a os).length = mm + 2) := by show _ = _; unfold encW; simp [hos]
              clear hno hcb hq2 hcb1 hcb2 hcb3 hcb4
              cases tk with
              | false =>
                have hR := Lib.hid (hq1.out rfl)
                clear hq1 hadv hpe hM
                go_wp2_with (first
                  | (go_at_call 12; refine (hEn.out _ _ _ hO9.kl).mono ?_; rintro e w10 ⟨v10, rfl, hK10, hb10⟩
                     rw [show (((a : Int), Value.slice A5 mm c5, os) : Ex).1.toNat = a from Int.toNat_natCast a] at hK10
                     have hBx := hB9.trans (hb10.mono hB9.size)
                     have hWd := words_any v10 _ _ _ w10 (by rw [hel.out]; omega) hK10 (hKw.out w10 hBx)
                     rw [show decide (encW gn a os = again) = _ from hq3.out] at hWd
                     obtain ⟨A10, c10, hv10, _⟩ := hK10.form hel.out
                     subst hv10
                     have hX10 := hX.keep hb10
                     have hO10 := hO9.keep hb10
                     clear hO9 hK10 hb10 hX x0 x1)
                  | (go_at_call 13; refine hWd.mono ?_; rintro e w11 ⟨rfl, hb11⟩
                     replace hBx := hBx.trans (hb11.mono hBx.size)
                     replace hBw := hB.trans (hBx.mono hbs)
                     have hX11 := hX10.keep hb11
                     have hO11 := hO10.keep hb11
                     obtain ⟨x0, x1⟩ := hX11.c2
                     clear hWd hb11 hX10 hO10))
                go_ret2
                exact ⟨_, by rw [hR.out]; rfl, by rw [hR.out]; exact EN.nil _, hBw⟩
              | true =>
                have hM2 := Lib.hid (show evs gn ws = ((xs ++ [((a : Int), Value.slice none 0 0, os)]).map px).map some ++ evs gn (ws.drop (k + (mm + 2))) from by
                  rw [hM.out, hadv.out rfl, hpe.out, hdd.out]
                  simp [px])
                clear hq1 hadv hpe hM
                go_wp2_with (first
                  | (go_at_call 12; refine (hEn.out _ _ _ hO9.kl).mono ?_; rintro e w10 ⟨v10, rfl, hK10, hb10⟩
                     rw [show (((a : Int), Value.slice A5 mm c5, os) : Ex).1.toNat = a from Int.toNat_natCast a] at hK10
                     have hBx := hB9.trans (hb10.mono hB9.size)
                     have hWd := words_any v10 _ _ _ w10 (by rw [hel.out]; omega) hK10 (hKw.out w10 hBx)
                     rw [show decide (encW gn a os = again) = _ from hq3.out] at hWd
                     obtain ⟨A10, c10, hv10, _⟩ := hK10.form hel.out
                     subst hv10
                     have hX10 := hX.keep hb10
                     have hO10 := hO9.keep hb10
                     clear hO9 hK10 hb10 hX x0 x1)
                  | (go_at_call 13; refine hWd.mono ?_; rintro e w11 ⟨rfl, hb11⟩
                     replace hBx := hBx.trans (hb11.mono hBx.size)
                     replace hBw := hB.trans (hBx.mono hbs)
                     have hX11 := hX10.keep hb11
                     have hO11 := hO10.keep hb11
                     obtain ⟨x0, x1⟩ := hX11.c2
                     clear hWd hb11 hX10 hO10
                     have hD11 := hD.keep hBx
                     have hoff : Off (.slice A5 mm c5) (Value.slice Ao mo co).ownBlock := fun g o m c e q => by
                       have := (hD.1.lt g q).2
                       obtain ⟨A7, c7, e7, h7⟩ := hO11.form
                       rw [hos] at e7 h7
                       obtain ⟨g8, e8, h8, _⟩ := h7 (by omega)
                       rw [e7, e8] at e
                       simp only [Value.slice.injEq, Option.some.injEq, Addr.mk.injEq, and_true] at e
                       omega
                     obtain ⟨A12, c12, w12, hr12, hD12, hb12⟩ := hD11.add (a := (a : Int)) hO11.kl (by omega) hoff hBw.size (by omega)
                     have hmo2 : xs.length + 1 = (xs ++ [((a : Int), Value.slice A5 mm c5, os)]).length := by simp
                     have hM3 : Hid (evs gn ws = ((xs ++ [((a : Int), Value.slice A5 mm c5, os)]).map px).map some ++ evs gn (ws.drop (k + (mm + 2)))) := by
                       show _ = _
                       rw [hM2.out]
                       simp [px]
                     replace hBw := hBw.trans hb12
                     clear hD11 hoff hO11)
                  | (at_builtin; refine wpList_append_run rfl _ _ 34 rfl _ _ _ rfl rfl hr12 ?_; clear hr12; (try simp only [Act.put, List.setIfInBounds_toArray, List.set_cons_zero, List.set_cons_succ])))
                go_roundw
                case rel => exact ⟨k + (mm + 2), _, A12, _, c12, hfit2, by go_num, rfl, hmo2, by rw [← hmo2]; omega, hM3, hD12, hBw⟩
                case measure => simp [intOf]; omega
          · go_simp
            replace hQ := hQ.blk0
            (try simp only [World.size_alloc, World.size_drew] at hQ)
            refine hK.out _ _ ?_ (fun hHeld2 hInv2 => ?_)
            · (try dsimp only)
              exact hQ.bel
            clear hK K hHeld hInv
            have hHeld := hHeld2
            have hInv := hInv2
            clear hHeld2 hInv2
            try simp only [Act.put, List.setIfInBounds_toArray, List.set_cons_zero, List.set_cons_succ] at hInv ⊢
            refine oneS 15 hInv (by decide) rfl (by kernel_rfl) (fun K hK => ?_)
            rw [if_pos (by rfl)]
            obtain ⟨A5, c5, w', hrun, hQ2⟩ := hQ.row1 hKu hos hmm
            (try simp only [World.size_alloc, World.size_drew] at hrun hQ2)
            refine wp_append_run _ _ _ _ rfl _ _ _ rfl rfl hrun ?_
            clear hrun hQ
            have hQ := hQ2
            clear hQ2
            refine hK.out _ _ ?_ (fun hHeld2 hInv2 => ?_)
            · (try dsimp only)
              exact hQ.bel
            clear hK K hHeld hInv
            have hHeld := hHeld2
            have hInv := hInv2
            clear hHeld2 hInv2
            try simp only [Act.put, List.setIfInBounds_toArray, List.set_cons_zero, List.set_cons_succ] at hInv ⊢
            refine takeS 16 (v := ?_) (tailAt (by kernel_rfl)) hInv (by decide) rfl (by kernel_rfl) (by kernel_rfl) (by kernel_rfl) (fun _ _ _ h => h) (by rfl) (by assumption) ?_ (fun hInv2 => ?_)
            rotate_left
            · (intro w hSw; (try dsimp only at hSw); have c0 := hCx.out w hSw; go_simp <;> with_reducible rfl)
            clear hInv
            have hInv := hInv2
            clear hInv2
            try simp only [Act.put, List.setIfInBounds_toArray, List.set_cons_zero, List.set_cons_succ] at hInv ⊢
            refine lastS 18 rfl (by decide) (by kernel_rfl) (fun K hK => ?_)
            obtain ⟨⟨h0, h1⟩, ⟨hf0, hf1⟩, w9, hw9, hX, hO9, hB9⟩ := hQ.last (a : Nat)
            go_simp
            (first | rw [← hw9] | rw [show w'.alloc (.cells #[.int .i64 ((a : Nat) : Int), .slice A5 mm c5] (25 : Nat)) = w9 from by rw [hw9]; simp [go_sem]])
            clear hw9 h0 h1 hf0 hf1 hQ
            refine hK.out _ _ ?_
            clear hK K
            try simp only [Act.put, List.setIfInBounds_toArray, List.set_cons_zero, List.set_cons_succ]
            refine wpAnyS_done (by kernel_rfl) ?_ _
            obtain ⟨x0, x1⟩ := hX.c2
            have hBw := hB.trans (hB9.mono hbs)
            clear hInv hHeld
            cases hcb : canB (a : Int) (mm : Int) with
            | false =>
              have hR := Lib.hid (hq1.out (hno.out hcb))
              have hEn := Lib.hid (fun A c w => refEncode_no (gn : Nat) (a : Int) A mm c w hcb)
              clear hq1 hq2 hadv hpe hno hcb hM hKw hs2
              go_wp2_with (go_at_call 12; refine (hEn.out _ _ _).mono ?_; rintro e w10 ⟨rfl, hb10⟩; replace hBw := hBw.trans (hb10.mono hBw.size))
              go_ret2
              exact ⟨_, by rw [hR.out]; rfl, by rw [hR.out]; exact EN.nil _, hBw⟩
            | true =>
              obtain ⟨hcb1, hcb2, hcb3, hcb4⟩ := canB_iff.1 hcb
              have hm1 : 1 ≤ mm := by omega
              have hEn := Lib.hid (fun A c w (h : KL .u64 w (.slice A mm c) os) => refEncode_yes gn ((a : Int), .slice A mm c, os) w hgn h hWo.out (by show os.length ≤ 800; omega) (by unfold rightB; show canB (a : Int) (os.length : Nat) = true; rw [hos]; exact hcb))
              have hq3 := Lib.hid (hq2.out hcb)
              have hel : Hid ((encW gn a os).length = mm + 2) := by show _ = _; unfold encW; simp [hos]
              clear hno hcb hq2 hcb1 hcb2 hcb3 hcb4
              cases tk with
              | false =>
                have hR := Lib.hid (hq1.out rfl)
                clear hq1 hadv hpe hM
                go_wp2_with (first
                  | (go_at_call 12; refine (hEn.out _ _ _ hO9.kl).mono ?_; rintro e w10 ⟨v10, rfl, hK10, hb10⟩
                     rw [show (((a : Int), Value.slice A5 mm c5, os) : Ex).1.toNat = a from Int.toNat_natCast a] at hK10
                     have hBx := hB9.trans (hb10.mono hB9.size)
                     have hWd := words_any v10 _ _ _ w10 (by rw [hel.out]; omega) hK10 (hKw.out w10 hBx)
                     rw [show decide (encW gn a os = again) = _ from hq3.out] at hWd
                     obtain ⟨A10, c10, hv10, _⟩ := hK10.form hel.out
                     subst hv10
                     have hX10 := hX.keep hb10
                     have hO10 := hO9.keep hb10
                     clear hO9 hK10 hb10 hX x0 x1)
                  | (go_at_call 13; refine hWd.mono ?_; rintro e w11 ⟨rfl, hb11⟩
                     replace hBx := hBx.trans (hb11.mono hBx.size)
                     replace hBw := hB.trans (hBx.mono hbs)
                     have hX11 := hX10.keep hb11
                     have hO11 := hO10.keep hb11
                     obtain ⟨x0, x1⟩ := hX11.c2
                     clear hWd hb11 hX10 hO10))
                go_ret2
                exact ⟨_, by rw [hR.out]; rfl, by rw [hR.out]; exact EN.nil _, hBw⟩
              | true =>
                have hM2 := Lib.hid (show evs gn ws = ((xs ++ [((a : Int), Value.slice none 0 0, os)]).map px).map some ++ evs gn (ws.drop (k + (mm + 2))) from by
                  rw [hM.out, hadv.out rfl, hpe.out, hdd.out]
                  simp [px])
                clear hq1 hadv hpe hM
                go_wp2_with (first
                  | (go_at_call 12; refine (hEn.out _ _ _ hO9.kl).mono ?_; rintro e w10 ⟨v10, rfl, hK10, hb10⟩
                     rw [show (((a : Int), Value.slice A5 mm c5, os) : Ex).1.toNat = a from Int.toNat_natCast a] at hK10
                     have hBx := hB9.trans (hb10.mono hB9.size)
                     have hWd := words_any v10 _ _ _ w10 (by rw [hel.out]; omega) hK10 (hKw.out w10 hBx)
                     rw [show decide (encW gn a os = again) = _ from hq3.out] at hWd
                     obtain ⟨A10, c10, hv10, _⟩ := hK10.form hel.out
                     subst hv10
                     have hX10 := hX.keep hb10
                     have hO10 := hO9.keep hb10
                     clear hO9 hK10 hb10 hX x0 x1)
                  | (go_at_call 13; refine hWd.mono ?_; rintro e w11 ⟨rfl, hb11⟩
                     replace hBx := hBx.trans (hb11.mono hBx.size)
                     replace hBw := hB.trans (hBx.mono hbs)
                     have hX11 := hX10.keep hb11
                     have hO11 := hO10.keep hb11
                     obtain ⟨x0, x1⟩ := hX11.c2
                     clear hWd hb11 hX10 hO10
                     have hD11 := hD.keep hBx
                     have hoff : Off (.slice A5 mm c5) (Value.slice Ao mo co).ownBlock := fun g o m c e q => by
                       have := (hD.1.lt g q).2
                       obtain ⟨A7, c7, e7, h7⟩ := hO11.form
                       rw [hos] at e7 h7
                       obtain ⟨g8, e8, h8, _⟩ := h7 (by omega)
                       rw [e7, e8] at e
                       simp only [Value.slice.injEq, Option.some.injEq, Addr.mk.injEq, and_true] at e
                       omega
                     obtain ⟨A12, c12, w12, hr12, hD12, hb12⟩ := hD11.add (a := (a : Int)) hO11.kl (by omega) hoff hBw.size (by omega)
                     have hmo2 : xs.length + 1 = (xs ++ [((a : Int), Value.slice A5 mm c5, os)]).length := by simp
                     have hM3 : Hid (evs gn ws = ((xs ++ [((a : Int), Value.slice A5 mm c5, os)]).map px).map some ++ evs gn (ws.drop (k + (mm + 2)))) := by
                       show _ = _
                       rw [hM2.out]
                       simp [px]
                     replace hBw := hBw.trans hb12
                     clear hD11 hoff hO11)
                  | (at_builtin; refine wpList_append_run rfl _ _ 34 rfl _ _ _ rfl rfl hr12 ?_; clear hr12; (try simp only [Act.put, List.setIfInBounds_toArray, List.set_cons_zero, List.set_cons_succ])))
                go_roundw
                case rel => exact ⟨k + (mm + 2), _, A12, _, c12, hfit2, by go_num, rfl, hmo2, by rw [← hmo2]; omega, hM3, hD12, hBw⟩
                case measure => simp [intOf]; omega
        · go_simp
          replace hQ := hQ.blk0
          (try simp only [World.size_alloc, World.size_drew] at hQ)
          refine hK.out _ _ ?_ (fun hHeld2 hInv2 => ?_)
          · (try dsimp only)
            exact hQ.bel
          clear hK K hHeld hInv
          have hHeld := hHeld2
          have hInv := hInv2
          clear hHeld2 hInv2
          try simp only [Act.put, List.setIfInBounds_toArray, List.set_cons_zero, List.set_cons_succ] at hInv ⊢
          refine oneS 6 hInv (by decide) rfl (by kernel_rfl) (fun K hK => ?_)
          go_simp
          replace hQ := hQ.row0
          (try simp only [World.size_alloc, World.size_drew] at hQ)
          refine hK.out _ _ ?_ (fun hHeld2 hInv2 => ?_)
          · (try dsimp only)
            exact hQ.bel
          clear hK K hHeld hInv
          have hHeld := hHeld2
          have hInv := hInv2
          clear hHeld2 hInv2
          try simp only [Act.put, List.setIfInBounds_toArray, List.set_cons_zero, List.set_cons_succ] at hInv ⊢
          refine oneS 15 hInv (by decide) rfl (by kernel_rfl) (fun K hK => ?_)
          rw [if_pos (by rfl)]
          obtain ⟨A5, c5, w', hrun, hQ2⟩ := hQ.row1 hKu hos hmm
          (try simp only [World.size_alloc, World.size_drew] at hrun hQ2)
          refine wp_append_run _ _ _ _ rfl _ _ _ rfl rfl hrun ?_
          clear hrun hQ
          have hQ := hQ2
          clear hQ2
          refine hK.out _ _ ?_ (fun hHeld2 hInv2 => ?_)
          · (try dsimp only)
            exact hQ.bel
          clear hK K hHeld hInv
          have hHeld := hHeld2
          have hInv := hInv2
          clear hHeld2 hInv2
          try simp only [Act.put, List.setIfInBounds_toArray, List.set_cons_zero, List.set_cons_succ] at hInv ⊢
          refine takeS 16 (v := ?_) (tailAt (by kernel_rfl)) hInv (by decide) rfl (by kernel_rfl) (by kernel_rfl) (by kernel_rfl) (fun _ _ _ h => h) (by rfl) (by assumption) ?_ (fun hInv2 => ?_)
          rotate_left
          · (intro w hSw; (try dsimp only at hSw); have c0 := hCx.out w hSw; go_simp <;> with_reducible rfl)
          clear hInv
          have hInv := hInv2
          clear hInv2
          try simp only [Act.put, List.setIfInBounds_toArray, List.set_cons_zero, List.set_cons_succ] at hInv ⊢
          refine lastS 18 rfl (by decide) (by kernel_rfl) (fun K hK => ?_)
          obtain ⟨⟨h0, h1⟩, ⟨hf0, hf1⟩, w9, hw9, hX, hO9, hB9⟩ := hQ.last (a : Nat)
          go_simp
          (first | rw [← hw9] | rw [show w'.alloc (.cells #[.int .i64 ((a : Nat) : Int), .slice A5 mm c5] (25 : Nat)) = w9 from by rw [hw9]; simp [go_sem]])
          clear hw9 h0 h1 hf0 hf1 hQ
          refine hK.out _ _ ?_
          clear hK K
          try simp only [Act.put, List.setIfInBounds_toArray, List.set_cons_zero, List.set_cons_succ]
          refine wpAnyS_done (by kernel_rfl) ?_ _
          obtain ⟨x0, x1⟩ := hX.c2
          have hBw := hB.trans (hB9.mono hbs)
          clear hInv hHeld
          cases hcb : canB (a : Int) (mm : Int) with
          | false =>
            have hR := Lib.hid (hq1.out (hno.out hcb))
            have hEn := Lib.hid (fun A c w => refEncode_no (gn : Nat) (a : Int) A mm c w hcb)
            clear hq1 hq2 hadv hpe hno hcb hM hKw hs2
            go_wp2_with (go_at_call 12; refine (hEn.out _ _ _).mono ?_; rintro e w10 ⟨rfl, hb10⟩; replace hBw := hBw.trans (hb10.mono hBw.size))
            go_ret2
            exact ⟨_, by rw [hR.out]; rfl, by rw [hR.out]; exact EN.nil _, hBw⟩
          | true =>
            obtain ⟨hcb1, hcb2, hcb3, hcb4⟩ := canB_iff.1 hcb
            have hm1 : 1 ≤ mm := by omega
            have hEn := Lib.hid (fun A c w (h : KL .u64 w (.slice A mm c) os) => refEncode_yes gn ((a : Int), .slice A mm c, os) w hgn h hWo.out (by show os.length ≤ 800; omega) (by unfold rightB; show canB (a : Int) (os.length : Nat) = true; rw [hos]; exact hcb))
            have hq3 := Lib.hid (hq2.out hcb)
            have hel : Hid ((encW gn a os).length = mm + 2) := by show _ = _; unfold encW; simp [hos]
            clear hno hcb hq2 hcb1 hcb2 hcb3 hcb4
            cases tk with
            | false =>
              have hR := Lib.hid (hq1.out rfl)
              clear hq1 hadv hpe hM
              go_wp2_with (first
                | (go_at_call 12; refine (hEn.out _ _ _ hO9.kl).mono ?_; rintro e w10 ⟨v10, rfl, hK10, hb10⟩
                   rw [show (((a : Int), Value.slice A5 mm c5, os) : Ex).1.toNat = a from Int.toNat_natCast a] at hK10
                   have hBx := hB9.trans (hb10.mono hB9.size)
                   have hWd := words_any v10 _ _ _ w10 (by rw [hel.out]; omega) hK10 (hKw.out w10 hBx)
                   rw [show decide (encW gn a os = again) = _ from hq3.out] at hWd
                   obtain ⟨A10, c10, hv10, _⟩ := hK10.form hel.out
                   subst hv10
                   have hX10 := hX.keep hb10
                   have hO10 := hO9.keep hb10
                   clear hO9 hK10 hb10 hX x0 x1)
                | (go_at_call 13; refine hWd.mono ?_; rintro e w11 ⟨rfl, hb11⟩
                   replace hBx := hBx.trans (hb11.mono hBx.size)
                   replace hBw := hB.trans (hBx.mono hbs)
                   have hX11 := hX10.keep hb11
                   have hO11 := hO10.keep hb11
                   obtain ⟨x0, x1⟩ := hX11.c2
                   clear hWd hb11 hX10 hO10))
              go_ret2
              exact ⟨_, by rw [hR.out]; rfl, by rw [hR.out]; exact EN.nil _, hBw⟩
            | true =>
              have hM2 := Lib.hid (show evs gn ws = ((xs ++ [((a : Int), Value.slice none 0 0, os)]).map px).map some ++ evs gn (ws.drop (k + (mm + 2))) from by
                rw [hM.out, hadv.out rfl, hpe.out, hdd.out]
                simp [px])
              clear hq1 hadv hpe hM
              go_wp2_with (first
                | (go_at_call 12; refine (hEn.out _ _ _ hO9.kl).mono ?_; rintro e w10 ⟨v10, rfl, hK10, hb10⟩
                   rw [show (((a : Int), Value.slice A5 mm c5, os) : Ex).1.toNat = a from Int.toNat_natCast a] at hK10
                   have hBx := hB9.trans (hb10.mono hB9.size)
                   have hWd := words_any v10 _ _ _ w10 (by rw [hel.out]; omega) hK10 (hKw.out w10 hBx)
                   rw [show decide (encW gn a os = again) = _ from hq3.out] at hWd
                   obtain ⟨A10, c10, hv10, _⟩ := hK10.form hel.out
                   subst hv10
                   have hX10 := hX.keep hb10
                   have hO10 := hO9.keep hb10
                   clear hO9 hK10 hb10 hX x0 x1)
                | (go_at_call 13; refine hWd.mono ?_; rintro e w11 ⟨rfl, hb11⟩
                   replace hBx := hBx.trans (hb11.mono hBx.size)
                   replace hBw := hB.trans (hBx.mono hbs)
                   have hX11 := hX10.keep hb11
                   have hO11 := hO10.keep hb11
                   obtain ⟨x0, x1⟩ := hX11.c2
                   clear hWd hb11 hX10 hO10
                   have hD11 := hD.keep hBx
                   have hoff : Off (.slice A5 mm c5) (Value.slice Ao mo co).ownBlock := fun g o m c e q => by
                     have := (hD.1.lt g q).2
                     obtain ⟨A7, c7, e7, h7⟩ := hO11.form
                     rw [hos] at e7 h7
                     obtain ⟨g8, e8, h8, _⟩ := h7 (by omega)
                     rw [e7, e8] at e
                     simp only [Value.slice.injEq, Option.some.injEq, Addr.mk.injEq, and_true] at e
                     omega
                   obtain ⟨A12, c12, w12, hr12, hD12, hb12⟩ := hD11.add (a := (a : Int)) hO11.kl (by omega) hoff hBw.size (by omega)
                   have hmo2 : xs.length + 1 = (xs ++ [((a : Int), Value.slice A5 mm c5, os)]).length := by simp
                   have hM3 : Hid (evs gn ws = ((xs ++ [((a : Int), Value.slice A5 mm c5, os)]).map px).map some ++ evs gn (ws.drop (k + (mm + 2)))) := by
                     show _ = _
                     rw [hM2.out]
                     simp [px]
                   replace hBw := hBw.trans hb12
                   clear hD11 hoff hO11)
                | (at_builtin; refine wpList_append_run rfl _ _ 34 rfl _ _ _ rfl rfl hr12 ?_; clear hr12; (try simp only [Act.put, List.setIfInBounds_toArray, List.set_cons_zero, List.set_cons_succ])))
              go_roundw
              case rel => exact ⟨k + (mm + 2), _, A12, _, c12, hfit2, by go_num, rfl, hmo2, by rw [← hmo2]; omega, hM3, hD12, hBw⟩
              case measure => simp [intOf]; omega
      · have hR := Lib.hid (hq1.out (by unfold tkB; rw [decide_eq_false hfit]; simp))
        generalize rs.getD 0 0 = x at *
        generalize manyN rs = mm at *
        have g1 : (n : Int) < (k : Int) + (mm : Int) + 2 := by omega
        clear hq1 hM hCx hWr hr0 hrs
        go_wp2_with fail
        go_ret2
        exact ⟨_, by rw [hR.out]; rfl, by rw [hR.out]; exact EN.nil _, hB⟩
    · obtain rfl : k = n := by omega
      have hR := Lib.hid (decL_all (gn := gn) (ws := ws) (xs := xs.map px) (by rw [hM.out, List.drop_of_length_le (by rw [hn.out]; exact Nat.le_refl _), evs_nil, List.append_nil]))
      have hEN := hD.en
      go_wp2_with fail
      go_ret2
      exact ⟨_, by rw [hR.out]; rfl, by rw [hR.out]; exact hEN, hB⟩
end Go.Proofs.Ytkmfncnfpneekaa
