/-
  The laws of package pmem: PmemPlays.
-/
import Derived.Test.YtcemiclbeocnjaaPm21
import Derived.Test.YtcemiclbeocnjaaRegX
set_option linter.unusedVariables false
set_option linter.unusedSimpArgs false
namespace Go.Proofs.Ytcemiclbeocnjaa
open Go.RowKit Go.ChangeShapes Go.WideShapes Go.Deep Go.Maps

/-- both devices are the same -/
def SameP (w0 wr : World) (B1 B2 : Nat) (F1 F2 : Nat → Prop) (N k : Nat) : Prop := ∃ s, GoodK s N k ∧ DvAt wr B1 F1 s ∧ RvAt wr B2 F2 s ∧ Below w0.heap.size w0 wr
theorem RvAt.cells {w : World} {B : Nat} {F : Nat → Prop} {s : Dv} (h : RvAt w B F s) : w.cell? ⟨B, 2, none⟩ = some (.bool s.dead) ∧ w.cell? ⟨B, 3, none⟩ = some (.int .i64 s.steps) := by
  obtain ⟨v0, W, hM, hW⟩ := h
  exact ⟨hM.cells.1.2.2.1, hM.cells.1.2.2.2⟩
theorem QL.keep {w w' : World} {l : List Qx} (h : QL w l) (hb : Below w.heap.size w w') : QL w' l := ⟨h.1, fun o ho => by
  obtain ⟨a, b, c, d, e, f⟩ := h.2 o ho
  exact ⟨a, b, c, d, e, f.keep hb⟩⟩

set_option maxRecDepth 10000 in
set_option maxHeartbeats 8000000 in
theorem pmemPlays (u v : Value) (st : List Nat) (l : List Qx) (w : World) (hu : KL .u64 w u st) (hzu : st.length ≤ 140737488355328) (hl : QL w l) (hv : QPL w v l) (hz : l.length * 56 ≤ 140737488351232) :
    Calls Try.prog 3 #[u, v] w fun e w' => e = .returned (.bool true) ∧ Below w.heap.size w w' := by
  have hAw := awake3_any w
  obtain ⟨n, hn⟩ : ∃ n, l.length = n := ⟨_, rfl⟩
  obtain ⟨N, hN⟩ : ∃ N, st.length = N := ⟨_, rfl⟩
  have huh := Lib.hid hu
  have hvh := Lib.hid hv
  have hlh := Lib.hid hl
  have hzh := Lib.hid hz
  obtain ⟨A, cap, rfl, hC⟩ := EL.form hv hn
  obtain ⟨A0, cap0, rfl, _⟩ := hu.form hN
  have hn9 : n ≤ 2600000000000 := by omega
  have hN9 : N ≤ 140737488355328 := by omega
  replace hC := Lib.hid hC
  have hnh := Lib.hid hn
  have hNh := Lib.hid hN
  clear hu hl hv hz hzu hn hN
  by_cases hN0 : N = 0
  · subst hN0
    go_enter Try.func3, Try.ntmps3
    go_wp2_with (first
      | (go_at_call 11; refine hAw.mono ?_; rintro e w1 ⟨rfl, hb1⟩; clear hAw)
      | (go_at_call 12; refine (qfew_any _ l w1 (hlh.out.keep hb1) (EL.keep hvh.out hb1) hzh.out).mono ?_; rintro e w2 ⟨⟨t, rfl, ht⟩, hb2⟩))
    go_ret
    exact ⟨rfl, hb1.trans (hb2.mono hb1.size)⟩
  by_cases hN30 : 30 < N
  · have k1 : (30 : Int) < (N : Int) := by omega
    have k2 : ((N : Int) == 0) = false := by simp; omega
    go_enter Try.func3, Try.ntmps3
    go_wp2_with (first
      | (go_at_call 11; refine hAw.mono ?_; rintro e w1 ⟨rfl, hb1⟩; clear hAw)
      | (go_at_call 12; refine (qfew_any _ l w1 (hlh.out.keep hb1) (EL.keep hvh.out hb1) hzh.out).mono ?_; rintro e w2 ⟨⟨t, rfl, ht⟩, hb2⟩))
    go_ret
    exact ⟨rfl, hb1.trans (hb2.mono hb1.size)⟩
  have k1 : (N : Int) ≤ 30 := by omega
  have k2 : ((N : Int) == 0) = false := by simp; omega
  have hN1 : 1 ≤ N := by omega
  have hN2 : N ≤ 30 := by omega
  clear hN0 hN30
  go_enter Try.func3, Try.ntmps3
  go_wp2_with (first
    | (go_at_call 11; refine hAw.mono ?_; rintro e w1 ⟨rfl, hb1⟩; clear hAw)
    | (go_at_call 12; refine (qfew_any _ l w1 (hlh.out.keep hb1) (EL.keep hvh.out hb1) hzh.out).mono ?_; rintro e w2 ⟨⟨t, rfl, ht⟩, hb2⟩
       have hb2w := hb1.trans (hb2.mono hb1.size)
       clear hb2 hb1)
    | (go_at_call 13; refine (dOpen _ st w2 (by rw [hNh.out]; omega) (by rw [hNh.out]; omega) (huh.out.keep hb2w)).mono ?_; rintro e w3 ⟨B1, F1, rfl, hD, hF1, hb3⟩
       have hb3w := hb2w.trans (hb3.mono hb2w.size)
       have hF1w := Lib.hid (fun k q => Nat.le_trans hb2w.size (hF1 k q))
       have hF1l := Lib.hid hD.lt
       clear hb3 hF1)
    | (go_at_call 14; refine (rOpen _ st w3 (by rw [hNh.out]; omega) (by rw [hNh.out]; omega) (huh.out.keep hb3w)).mono ?_; rintro e w4 ⟨B2, F2, rfl, hR, hF2, hb4⟩
       have hb4w := hb3w.trans (hb4.mono hb3w.size)
       have hF2w := Lib.hid (fun k q => Nat.le_trans hb3w.size (hF2 k q))
       have hdis := Lib.hid (fun k (q : F1 k) (q2 : F2 k) => show False from by have := hF1l.out k q; have := hF2 k q2; omega)
       have hS0 : Hid (SameP w w4 B1 B2 F1 F2 N 0) := ⟨dv0 st, hNh.out ▸ GoodK.zero st, hD.keep hb4, hR, hb4w⟩
       clear hb4 hF2 hD hR))
  · go_ret
    exact ⟨rfl, hb2w⟩
  have hh : (N : Int) ≤ 30 ∧ (!t) = false := by assumption
  have htt : t = true := by simpa using hh.2
  have hFew := Lib.hid (ht htt)
  clear hh
  subst htt
  have hn60 : n ≤ 60 := by have := hFew.out.2; have := hnh.out; omega
  clear ht hb2w hb3w
  replace hb4w := Lib.hid hb4w
  have huW := Lib.hid (fun w' (hb : Below w.heap.size w w') => huh.out.keep hb)
  go_loopw [10] (fun i wr => ∃ k : Nat, k ≤ n ∧ i = .int .i64 k ∧ Hid (SameP w wr B1 B2 F1 F2 N k)) (fun i _ => n + 1 - (intOf i).toNat)
  case atStart => exact ⟨0, Nat.zero_le _, rfl, hS0⟩
  case round =>
    clear hS0
    obtain ⟨k, hk, rfl, hSh⟩ := hrel
    by_cases hlt : k < n
    · obtain ⟨s, hGk, hD, hR, hB⟩ := hSh.out
      obtain ⟨g, off, rfl, hcap, hgw, hg, hcl⟩ := hC.out wr k hB hlt
      have hlt' : (k : Int) < (n : Int) := by omega
      have hok := hlh.out.at (k := k) (by rw [hnh.out]; exact hlt)
      have hfo := hFew.out.1 (l.getD k default) (by
        rw [List.getD_eq_getElem?_getD, List.getElem?_eq_getElem (by rw [hnh.out]; exact hlt)]
        exact List.getElem_mem _)
      have hcl2 := Lib.hid (fun w' (hb : Below w.heap.size w w') => (hC.out w' k hb hlt).elim fun g h => h.elim fun o h => show ∀ j, j < 5 → w'.cell? ⟨_, _ + k * 5 + j, none⟩ = (qE (l.getD k default))[j]? from by
        obtain ⟨h1, _, _, _, h4⟩ := h
        cases h1
        exact h4)
      generalize l.getD k default = o at *
      have hg0 := hGk.good hN1 (by omega) (by omega)
      have hGk1 := hGk.op (by omega) hfo
      have hg1 := hGk1.good hN1 (by omega) (by omega)
      obtain ⟨hok1, hok2, hok3, hok4, hok5, hok6⟩ := hok
      have hDo := doP_any B1 F1 s o wr hD hg0 hfo hok1 hok4 hok5 (fun w' hc => hok6.keep (hB.trans (hc.below hF1w.out hB.size)))
      have hAl := Lib.hid (fun w' (h : RvAt w' B2 F2 s) (hb : Below w.heap.size w w') => alsoP_any B2 F2 s o w' h hg0 hfo hok1 hok4 hok5 (fun w'' hc => hok6.keep (hb.trans (hc.below hF2w.out hb.size))))
      obtain ⟨r, hr⟩ : ∃ r, opR s o = r := ⟨_, rfl⟩
      obtain ⟨s1, hs1⟩ : ∃ s1, opD s o = s1 := ⟨_, rfl⟩
      rw [hr, hs1] at hDo
      rw [hr, hs1] at hAl
      rw [hs1] at hGk1 hg1
      replace hr := Lib.hid hr
      replace hs1 := Lib.hid hs1
      obtain ⟨⟨kd, at_, mn, vv⟩, kv, kp⟩ := o
      simp only [qV, qE] at hDo hAl
      have d0 : wr.cell? ⟨g, off + k * 5, none⟩ = some (.int .u8 kd) := hcl 0 (by omega)
      have d1 : wr.cell? ⟨g, off + k * 5 + 1, none⟩ = some (.int .i64 at_) := hcl 1 (by omega)
      have d2 : wr.cell? ⟨g, off + k * 5 + 2, none⟩ = some (.int .i64 mn) := hcl 2 (by omega)
      have d3 : wr.cell? ⟨g, off + k * 5 + 3, none⟩ = some (.int .u64 vv) := hcl 3 (by omega)
      have d4 : wr.cell? ⟨g, off + k * 5 + 4, none⟩ = some kv := hcl 4 (by omega)
      obtain ⟨Ak, ck, hkv, _⟩ := hok6.form rfl
      simp only [] at hkv
      subst hkv
      replace hg0 := Lib.hid hg0
      replace hfo := Lib.hid hfo
      replace hGk1 := Lib.hid hGk1
      replace hg1 := Lib.hid hg1
      clear hD hcl hok1 hok2 hok3 hok4 hok5 hok6 hGk
      go_wp2_with (first
        | (go_at_call 15; refine hDo.mono ?_; rintro e w5 ⟨rfl, hD5, hc5⟩; clear hDo
           have hB5 := hB.trans (hc5.below hF1w.out hB.size)
           have hR5 := hR.chg hc5 (fun k q q2 => hdis.out k q2 q)
           have hg5 : g < w5.heap.size := Nat.lt_of_lt_of_le hg hc5.size
           have e0 : w5.cell? ⟨g, off + k * 5, none⟩ = some (.int .u8 kd) := hcl2.out w5 hB5 0 (by omega)
           have e1 : w5.cell? ⟨g, off + k * 5 + 1, none⟩ = some (.int .i64 at_) := hcl2.out w5 hB5 1 (by omega)
           have e2 : w5.cell? ⟨g, off + k * 5 + 2, none⟩ = some (.int .i64 mn) := hcl2.out w5 hB5 2 (by omega)
           have e3 : w5.cell? ⟨g, off + k * 5 + 3, none⟩ = some (.int .u64 vv) := hcl2.out w5 hB5 3 (by omega)
           have e4 : w5.cell? ⟨g, off + k * 5 + 4, none⟩ = some (.slice Ak kp.length ck) := hcl2.out w5 hB5 4 (by omega)
           clear hR hc5 d0 d1 d2 d3 d4)
        | (go_at_call 16; refine (hAl.out w5 hR5 hB5).mono ?_; rintro e w6 ⟨rfl, hR6, hc6⟩; clear hAl
           have hB6 := Lib.hid (hB5.trans (hc6.below hF2w.out hB5.size))
           have hD6 := Lib.hid (hD5.chg hc6 (fun k q q2 => hdis.out k q q2))
           replace hR6 := Lib.hid hR6
           clear hR5 hc6 hD5 e0 e1 e2 e3 e4 hB5 hcl2))
      have hDh := Lib.hid (fun w' (hb : Below w6.heap.size w6 w') => hD6.out.keep hb)
      have hRh := Lib.hid (fun w' (hb : Below w6.heap.size w6 w') => hR6.out.keep hb)
      have hcx := Lib.hid (fun w' (hb : Below w6.heap.size w6 w') => (hR6.out.keep hb).cells)
      have hnd := Lib.hid (keysL_len s1.L.length s1.c)
      have hsl := Lib.hid (show s1.L.length ≤ 1000 from hg1.out.len)
      have trr : ((r : Int) != (r : Int)) = false := by simp
      generalize hdd : s1.dead = dd at *
      generalize hst : s1.steps = stp at *
      have tdd : (dd != dd) = false := by simp
      have tss : (stp != stp) = false := by simp
      go_wp2_with fail
      refine wp_region_held_drew (S := (fun w' => Below w6.heap.size w6 w')) (by kernel_rfl) ?_ (fun hHeld => ?_)
      · (try dsimp only)
        (first | assumption | (exact (Below.refl _ _).drew) | (exact Below.trans hHeld (hb.mono (Below.size hHeld))))
      refine takeL 0 (v := ?_) rfl (by kernel_rfl) (by kernel_rfl) (by kernel_rfl) (fun _ _ _ h => h) (by rfl) (by assumption) ?_ ?_
      rotate_left
      · (intro wz hSw; (try dsimp only at hSw); obtain ⟨cx2, cx3⟩ := hcx.out wz hSw; (try rw [hdd] at cx2); (try rw [hst] at cx3); go_simp <;> with_reducible rfl)
      try simp only [Act.put, List.setIfInBounds_toArray, List.set_cons_zero, List.set_cons_succ]
      refine takeL 1 (v := ?_) rfl (by kernel_rfl) (by kernel_rfl) (by kernel_rfl) (fun _ _ _ h => h) (by rfl) (by assumption) ?_ ?_
      rotate_left
      · (intro wz hSw; (try dsimp only at hSw); obtain ⟨cx2, cx3⟩ := hcx.out wz hSw; (try rw [hdd] at cx2); (try rw [hst] at cx3); go_simp <;> with_reducible rfl)
      try simp only [Act.put, List.setIfInBounds_toArray, List.set_cons_zero, List.set_cons_succ]
      refine takeL 2 (v := ?_) rfl (by kernel_rfl) (by kernel_rfl) (by kernel_rfl) (fun _ _ _ h => h) (by rfl) (by assumption) ?_ ?_
      rotate_left
      · (intro wz hSw; (try dsimp only at hSw); obtain ⟨cx2, cx3⟩ := hcx.out wz hSw; (try rw [hdd] at cx2); (try rw [hst] at cx3); go_simp <;> with_reducible rfl)
      try simp only [Act.put, List.setIfInBounds_toArray, List.set_cons_zero, List.set_cons_succ]
      refine takeL 3 (v := ?_) rfl (by kernel_rfl) (by kernel_rfl) (by kernel_rfl) (fun _ _ _ h => h) (by rfl) (by assumption) ?_ ?_
      rotate_left
      · (intro wz hSw; (try dsimp only at hSw); obtain ⟨cx2, cx3⟩ := hcx.out wz hSw; (try rw [hdd] at cx2); (try rw [hst] at cx3); go_simp <;> with_reducible rfl)
      try simp only [Act.put, List.setIfInBounds_toArray, List.set_cons_zero, List.set_cons_succ]
      refine takeL 4 (v := ?_) rfl (by kernel_rfl) (by kernel_rfl) (by kernel_rfl) (fun _ _ _ h => h) (by rfl) (by assumption) ?_ ?_
      rotate_left
      · (intro wz hSw; (try dsimp only at hSw); obtain ⟨cx2, cx3⟩ := hcx.out wz hSw; (try rw [hdd] at cx2); (try rw [hst] at cx3); go_simp <;> with_reducible rfl)
      try simp only [Act.put, List.setIfInBounds_toArray, List.set_cons_zero, List.set_cons_succ]
      refine takeL 6 (v := ?_) rfl (by kernel_rfl) (by kernel_rfl) (by kernel_rfl) (fun _ _ _ h => h) (by rfl) (by assumption) ?_ ?_
      rotate_left
      · (intro wz hSw; (try dsimp only at hSw); obtain ⟨cx2, cx3⟩ := hcx.out wz hSw; (try rw [hdd] at cx2); (try rw [hst] at cx3); go_simp <;> with_reducible rfl)
      try simp only [Act.put, List.setIfInBounds_toArray, List.set_cons_zero, List.set_cons_succ]
      refine takeL 7 (v := ?_) rfl (by kernel_rfl) (by kernel_rfl) (by kernel_rfl) (fun _ _ _ h => h) (by rfl) (by assumption) ?_ ?_
      rotate_left
      · (intro wz hSw; (try dsimp only at hSw); obtain ⟨cx2, cx3⟩ := hcx.out wz hSw; (try rw [hdd] at cx2); (try rw [hst] at cx3); go_simp <;> with_reducible rfl)
      try simp only [Act.put, List.setIfInBounds_toArray, List.set_cons_zero, List.set_cons_succ]
      refine takeL 8 (v := ?_) rfl (by kernel_rfl) (by kernel_rfl) (by kernel_rfl) (fun _ _ _ h => h) (by rfl) (by assumption) ?_ ?_
      rotate_left
      · (intro wz hSw; (try dsimp only at hSw); obtain ⟨cx2, cx3⟩ := hcx.out wz hSw; (try rw [hdd] at cx2); (try rw [hst] at cx3); go_simp <;> with_reducible rfl)
      try simp only [Act.put, List.setIfInBounds_toArray, List.set_cons_zero, List.set_cons_succ]
      refine takeL 9 (v := ?_) rfl (by kernel_rfl) (by kernel_rfl) (by kernel_rfl) (fun _ _ _ h => h) (by rfl) (by assumption) ?_ ?_
      rotate_left
      · (intro wz hSw; (try dsimp only at hSw); obtain ⟨cx2, cx3⟩ := hcx.out wz hSw; (try rw [hdd] at cx2); (try rw [hst] at cx3); go_simp <;> with_reducible rfl)
      try simp only [Act.put, List.setIfInBounds_toArray, List.set_cons_zero, List.set_cons_succ]
      refine oneL 5 rfl (by kernel_rfl) (fun K hK => ?_)
      go_simp
      ((with_reducible refine (dDead B1 F1 s1 _ (hDh.out _ (by assumption))).mono ?_); rintro e w8 ⟨rfl, rfl⟩; rw [hdd])
      refine hK.out _ _ ?_ (fun hHeld2 => ?_)
      · (try dsimp only)
        (first | assumption | (exact (Below.refl _ _).drew) | (exact Below.trans hHeld (hb.mono (Below.size hHeld))))
      clear hK K hHeld
      have hHeld := hHeld2
      clear hHeld2
      try simp only [Act.put, List.setIfInBounds_toArray, List.set_cons_zero, List.set_cons_succ]
      refine takeL 10 (v := ?_) rfl (by kernel_rfl) (by kernel_rfl) (by kernel_rfl) (fun _ _ _ h => h) (by rfl) (by assumption) ?_ ?_
      rotate_left
      · (intro wz hSw; (try dsimp only at hSw); obtain ⟨cx2, cx3⟩ := hcx.out wz hSw; (try rw [hdd] at cx2); (try rw [hst] at cx3); go_simp <;> with_reducible rfl)
      try simp only [Act.put, List.setIfInBounds_toArray, List.set_cons_zero, List.set_cons_succ]
      refine takeL 11 (v := ?_) rfl (by kernel_rfl) (by kernel_rfl) (by kernel_rfl) (fun _ _ _ h => h) (by rfl) (by assumption) ?_ ?_
      rotate_left
      · (intro wz hSw; (try dsimp only at hSw); obtain ⟨cx2, cx3⟩ := hcx.out wz hSw; (try rw [hdd] at cx2); (try rw [hst] at cx3); go_simp <;> with_reducible rfl)
      try simp only [Act.put, List.setIfInBounds_toArray, List.set_cons_zero, List.set_cons_succ]
      refine takeL 12 (v := ?_) rfl (by kernel_rfl) (by kernel_rfl) (by kernel_rfl) (fun _ _ _ h => h) (by rfl) (by assumption) ?_ ?_
      rotate_left
      · (intro wz hSw; (try dsimp only at hSw); obtain ⟨cx2, cx3⟩ := hcx.out wz hSw; (try rw [hdd] at cx2); (try rw [hst] at cx3); go_simp <;> with_reducible rfl)
      try simp only [Act.put, List.setIfInBounds_toArray, List.set_cons_zero, List.set_cons_succ]
      refine takeL 13 (v := ?_) rfl (by kernel_rfl) (by kernel_rfl) (by kernel_rfl) (fun _ _ _ h => h) (by rfl) (by assumption) ?_ ?_
      rotate_left
      · (intro wz hSw; (try dsimp only at hSw); obtain ⟨cx2, cx3⟩ := hcx.out wz hSw; (try rw [hdd] at cx2); (try rw [hst] at cx3); go_simp <;> with_reducible rfl)
      try simp only [Act.put, List.setIfInBounds_toArray, List.set_cons_zero, List.set_cons_succ]
      refine takeL 15 (v := ?_) rfl (by kernel_rfl) (by kernel_rfl) (by kernel_rfl) (fun _ _ _ h => h) (by rfl) (by assumption) ?_ ?_
      rotate_left
      · (intro wz hSw; (try dsimp only at hSw); obtain ⟨cx2, cx3⟩ := hcx.out wz hSw; (try rw [hdd] at cx2); (try rw [hst] at cx3); go_simp <;> with_reducible rfl)
      try simp only [Act.put, List.setIfInBounds_toArray, List.set_cons_zero, List.set_cons_succ]
      refine takeL 16 (v := ?_) rfl (by kernel_rfl) (by kernel_rfl) (by kernel_rfl) (fun _ _ _ h => h) (by rfl) (by assumption) ?_ ?_
      rotate_left
      · (intro wz hSw; (try dsimp only at hSw); obtain ⟨cx2, cx3⟩ := hcx.out wz hSw; (try rw [hdd] at cx2); (try rw [hst] at cx3); go_simp <;> with_reducible rfl)
      try simp only [Act.put, List.setIfInBounds_toArray, List.set_cons_zero, List.set_cons_succ]
      refine takeL 17 (v := ?_) rfl (by kernel_rfl) (by kernel_rfl) (by kernel_rfl) (fun _ _ _ h => h) (by rfl) (by assumption) ?_ ?_
      rotate_left
      · (intro wz hSw; (try dsimp only at hSw); obtain ⟨cx2, cx3⟩ := hcx.out wz hSw; (try rw [hdd] at cx2); (try rw [hst] at cx3); go_simp <;> with_reducible rfl)
      try simp only [Act.put, List.setIfInBounds_toArray, List.set_cons_zero, List.set_cons_succ]
      refine takeL 18 (v := ?_) rfl (by kernel_rfl) (by kernel_rfl) (by kernel_rfl) (fun _ _ _ h => h) (by rfl) (by assumption) ?_ ?_
      rotate_left
      · (intro wz hSw; (try dsimp only at hSw); obtain ⟨cx2, cx3⟩ := hcx.out wz hSw; (try rw [hdd] at cx2); (try rw [hst] at cx3); go_simp <;> with_reducible rfl)
      try simp only [Act.put, List.setIfInBounds_toArray, List.set_cons_zero, List.set_cons_succ]
      refine oneL 14 rfl (by kernel_rfl) (fun K hK => ?_)
      go_simp
      ((with_reducible refine (dSteps B1 F1 s1 _ (hDh.out _ (by assumption))).mono ?_); rintro e w8 ⟨rfl, rfl⟩; rw [hst])
      refine hK.out _ _ ?_ (fun hHeld2 => ?_)
      · (try dsimp only)
        (first | assumption | (exact (Below.refl _ _).drew) | (exact Below.trans hHeld (hb.mono (Below.size hHeld))))
      clear hK K hHeld
      have hHeld := hHeld2
      clear hHeld2
      try simp only [Act.put, List.setIfInBounds_toArray, List.set_cons_zero, List.set_cons_succ]
      refine takeL 19 (v := ?_) rfl (by kernel_rfl) (by kernel_rfl) (by kernel_rfl) (fun _ _ _ h => h) (by rfl) (by assumption) ?_ ?_
      rotate_left
      · (intro wz hSw; (try dsimp only at hSw); obtain ⟨cx2, cx3⟩ := hcx.out wz hSw; (try rw [hdd] at cx2); (try rw [hst] at cx3); go_simp <;> with_reducible rfl)
      try simp only [Act.put, List.setIfInBounds_toArray, List.set_cons_zero, List.set_cons_succ]
      refine takeL 20 (v := ?_) rfl (by kernel_rfl) (by kernel_rfl) (by kernel_rfl) (fun _ _ _ h => h) (by rfl) (by assumption) ?_ ?_
      rotate_left
      · (intro wz hSw; (try dsimp only at hSw); obtain ⟨cx2, cx3⟩ := hcx.out wz hSw; (try rw [hdd] at cx2); (try rw [hst] at cx3); go_simp <;> with_reducible rfl)
      try simp only [Act.put, List.setIfInBounds_toArray, List.set_cons_zero, List.set_cons_succ]
      refine takeL 21 (v := ?_) rfl (by kernel_rfl) (by kernel_rfl) (by kernel_rfl) (fun _ _ _ h => h) (by rfl) (by assumption) ?_ ?_
      rotate_left
      · (intro wz hSw; (try dsimp only at hSw); obtain ⟨cx2, cx3⟩ := hcx.out wz hSw; (try rw [hdd] at cx2); (try rw [hst] at cx3); go_simp <;> with_reducible rfl)
      try simp only [Act.put, List.setIfInBounds_toArray, List.set_cons_zero, List.set_cons_succ]
      refine takeL 22 (v := ?_) rfl (by kernel_rfl) (by kernel_rfl) (by kernel_rfl) (fun _ _ _ h => h) (by rfl) (by assumption) ?_ ?_
      rotate_left
      · (intro wz hSw; (try dsimp only at hSw); obtain ⟨cx2, cx3⟩ := hcx.out wz hSw; (try rw [hdd] at cx2); (try rw [hst] at cx3); go_simp <;> with_reducible rfl)
      try simp only [Act.put, List.setIfInBounds_toArray, List.set_cons_zero, List.set_cons_succ]
      refine takeL 24 (v := ?_) rfl (by kernel_rfl) (by kernel_rfl) (by kernel_rfl) (fun _ _ _ h => h) (by rfl) (by assumption) ?_ ?_
      rotate_left
      · (intro wz hSw; (try dsimp only at hSw); obtain ⟨cx2, cx3⟩ := hcx.out wz hSw; (try rw [hdd] at cx2); (try rw [hst] at cx3); go_simp <;> with_reducible rfl)
      try simp only [Act.put, List.setIfInBounds_toArray, List.set_cons_zero, List.set_cons_succ]
      refine oneL 23 rfl (by kernel_rfl) (fun K hK => ?_)
      go_simp
      ((with_reducible refine (dDirty B1 F1 s1 _ (hDh.out _ (by assumption)) hg1.out).mono ?_); rintro e w9 ⟨v9, rfl, ho9, hb⟩; have hi9 := ho9.el iE_len; clear ho9)
      refine hK.out _ _ ?_ (fun hHeld2 => ?_)
      · (try dsimp only)
        (first | assumption | (exact (Below.refl _ _).drew) | (exact Below.trans hHeld (hb.mono (Below.size hHeld))))
      clear hK K hHeld
      have hHeld := hHeld2
      clear hHeld2
      try simp only [Act.put, List.setIfInBounds_toArray, List.set_cons_zero, List.set_cons_succ]
      refine oneL 25 rfl (by kernel_rfl) (fun K hK => ?_)
      go_simp
      ((with_reducible refine (rDirty B2 F2 s1 _ (hRh.out _ (by assumption)) hg1.out).mono ?_); rintro e w10 ⟨v10, rfl, ho10, hb⟩; have hj9 := ho10.el iE_len; replace hi9 := hi9.keep hb; clear ho10)
      refine hK.out _ _ ?_ (fun hHeld2 => ?_)
      · (try dsimp only)
        (first | assumption | (exact (Below.refl _ _).drew) | (exact Below.trans hHeld (hb.mono (Below.size hHeld))))
      clear hK K hHeld
      have hHeld := hHeld2
      clear hHeld2
      try simp only [Act.put, List.setIfInBounds_toArray, List.set_cons_zero, List.set_cons_succ]
      refine oneL 26 rfl (by kernel_rfl) (fun K hK => ?_)
      go_simp
      ((with_reducible refine (ints_any _ _ (keysL s1.L.length s1.c) (keysL s1.L.length s1.c) _ (Nat.le_trans hnd.out (Nat.le_trans hsl.out (by decide))) hi9 hj9).mono ?_); rintro e w11 ⟨rfl, hb⟩; rw [show decide (keysL s1.L.length s1.c = keysL s1.L.length s1.c) = true by simp]; clear hi9 hj9)
      refine hK.out _ _ ?_ (fun hHeld2 => ?_)
      · (try dsimp only)
        (first | assumption | (exact (Below.refl _ _).drew) | (exact Below.trans hHeld (hb.mono (Below.size hHeld))))
      clear hK K hHeld
      have hHeld := hHeld2
      clear hHeld2
      try simp only [Act.put, List.setIfInBounds_toArray, List.set_cons_zero, List.set_cons_succ]
      refine takeL 27 (v := ?_) rfl (by kernel_rfl) (by kernel_rfl) (by kernel_rfl) (fun _ _ _ h => h) (by rfl) (by assumption) ?_ ?_
      rotate_left
      · (intro wz hSw; (try dsimp only at hSw); obtain ⟨cx2, cx3⟩ := hcx.out wz hSw; (try rw [hdd] at cx2); (try rw [hst] at cx3); go_simp <;> with_reducible rfl)
      try simp only [Act.put, List.setIfInBounds_toArray, List.set_cons_zero, List.set_cons_succ]
      refine takeL 28 (v := ?_) rfl (by kernel_rfl) (by kernel_rfl) (by kernel_rfl) (fun _ _ _ h => h) (by rfl) (by assumption) ?_ ?_
      rotate_left
      · (intro wz hSw; (try dsimp only at hSw); obtain ⟨cx2, cx3⟩ := hcx.out wz hSw; (try rw [hdd] at cx2); (try rw [hst] at cx3); go_simp <;> with_reducible rfl)
      try simp only [Act.put, List.setIfInBounds_toArray, List.set_cons_zero, List.set_cons_succ]
      refine wpAnyH_done (by kernel_rfl) ?_ _
      have hSf : Hid (SameP w _ B1 B2 F1 F2 N (k + 1)) := ⟨s1, hGk1.out, hDh.out _ hHeld, hRh.out _ hHeld, hB6.out.trans (hHeld.mono hB6.out.size)⟩
      go_wp2_with fail
      go_roundw
      case rel => exact ⟨k + 1, by omega, by go_num, hSf⟩
      case measure => simp [intOf]; omega
    · obtain rfl : k = n := by omega
      obtain ⟨s, hGk, hD, hR, hB⟩ := hSh.out
      have hg0 := Lib.hid (hGk.good hN1 (by omega) (by omega))
      have hsL := Lib.hid hGk.len
      replace hD := Lib.hid hD
      replace hR := Lib.hid hR
      replace hB := Lib.hid hB
      clear hGk hSh
      go_wp2_with fail
      go_loopw [13] (fun i wz => wz = wr ∧ ∃ m : Nat, m ≤ N ∧ i = .int .i64 m) (fun i _ => N + 1 - (intOf i).toNat)
      case atStart => exact ⟨rfl, 0, Nat.zero_le _, rfl⟩
      case round =>
        obtain ⟨rfl, m, hm, rfl⟩ := hrel
        by_cases hlm : m < N
        · have hlm' : (m : Int) < (N : Int) := by omega
          have hL1 := dLoad B1 F1 s (m : Int) _ hD.out hg0.out
          have hL2 := rLoad B2 F2 s (m : Int) _ hR.out hg0.out
          generalize loadD s (m : Int) = z at *
          have tzz : ((z : Int) != (z : Int)) = false := by simp
          go_wp2_with (first
            | (go_at_call 22; refine hL1.mono ?_; rintro e wa ⟨rfl, rfl⟩; clear hL1)
            | (go_at_call 23; refine hL2.mono ?_; rintro e wa ⟨rfl, rfl⟩; clear hL2))
          go_roundw
          case rel => first | exact ⟨rfl, m + 1, by omega, by go_num⟩ | exact ⟨trivial, m + 1, by omega, by go_num⟩
          case measure => simp [intOf]; omega
        · obtain rfl : m = N := by omega
          go_wp2_with (first
            | (go_at_call 25; refine (dImage B1 F1 s _ hD.out hg0.out.len).mono ?_; rintro e wa ⟨va, rfl, hoa, hba⟩
               have hia := hoa.kl
               obtain ⟨Aa, ca, rfl, _⟩ := hoa.form
               clear hoa)
            | (go_at_call 26; refine (rImage B2 F2 s _ (hR.out.keep hba) hg0.out).mono ?_; rintro e wb ⟨vb, rfl, hob, hbb⟩
               have hib := hob.kl
               obtain ⟨Ab, cb, rfl, _⟩ := hob.form
               replace hia := hia.keep hbb
               clear hob)
            | (go_at_call 24; refine (words_any _ _ s.L s.L _ (Nat.le_trans hg0.out.len (by decide)) hia hib).mono ?_; rintro e wc ⟨rfl, hbc⟩
               rw [show decide (s.L = s.L) = true by simp]
               have hDc := hD.out.keep ((hba.trans (hbb.mono hba.size)).trans (hbc.mono (Nat.le_trans hba.size hbb.size)))
               have hBc := Lib.hid (hB.out.trans (((hba.trans (hbb.mono hba.size)).trans (hbc.mono (Nat.le_trans hba.size hbb.size))).mono hB.out.size))
               clear hia hib)
            | (go_at_call 27; refine (dWords B1 F1 s _ hDc).mono ?_; rintro e wd ⟨rfl, rfl⟩; rw [show s.L.length = m from hsL.out]))
          go_ret
          exact ⟨rfl, hBc.out⟩
end Go.Proofs.Ytcemiclbeocnjaa
