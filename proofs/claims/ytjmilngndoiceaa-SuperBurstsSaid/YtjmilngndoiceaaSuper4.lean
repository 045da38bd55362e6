/-
  The laws of package super: the chapter's example.
-/
import Derived.Test.YtjmilngndoiceaaSuper3
set_option linter.unusedVariables false
set_option linter.unusedSimpArgs false
namespace Go.Proofs.Ytjmilngndoiceaa
open Go.RowKit

theorem SL.cell {w : World} {g o n c : Nat} {l : List Nat} (h : SL w (.slice (some ⟨g, o, none⟩) n c) l) (i : Nat) (hi : i < l.length) : w.cell? ⟨g, o + i, none⟩ = some (.int .u64 (l.getD i 0 : Nat)) := by
  rcases h with ⟨rfl, _⟩ | ⟨g', o', c', hv, hg, hcap, hc⟩
  · simp at hi
  · simp only [Value.slice.injEq, Option.some.injEq, Addr.mk.injEq, and_true] at hv
    obtain ⟨⟨rfl, rfl⟩, _, _⟩ := hv
    exact hc i hi
theorem SL.lt {w : World} {g o n c : Nat} {l : List Nat} (h : SL w (.slice (some ⟨g, o, none⟩) n c) l) (hi : 0 < l.length) : g < w.heap.size := by
  rcases h with ⟨rfl, _⟩ | ⟨g', o', c', hv, hg, hcap, hc⟩
  · simp at hi
  · simp only [Value.slice.injEq, Option.some.injEq, Addr.mk.injEq, and_true] at hv
    obtain ⟨⟨rfl, rfl⟩, _, _⟩ := hv
    exact hg
theorem SL.of_owns' {w : World} {base e n : Nat} {v : Value} {l : List Nat} (h : w.ownsRow base e 1 v n (wv l)) (hn : l.length = n) : SL w v l := by
  subst hn
  exact SL.of_owns h
theorem headW_len (W L G : Nat) : (headW W L G).length = 8 := by simp [headW, headL]
theorem headW_WL {W L G : Nat} (h1 : W < 18446744073709551616) (h2 : L < 18446744073709551616) (h3 : G < 18446744073709551616) : WL (headW W L G) := fun x hx => by
  unfold headW at hx
  rcases List.mem_append.1 hx with h | h
  · exact head_WL h1 h2 h3 x h
  · have := moreN_lt 0 (headL W L G)
    simp at h
    omega
theorem headW_3 (W L G : Nat) (zs : List Nat) : (headW W L G ++ zs).getD 3 0 = L := by simp [headW, headL]
theorem zeros_WL (k : Nat) : WL (List.replicate k 0) := fun x hx => by rw [List.eq_of_mem_replicate hx]; omega
theorem WL.app {a b : List Nat} (ha : WL a) (hb : WL b) : WL (a ++ b) := fun x hx => by
  rcases List.mem_append.1 hx with h | h
  · exact ha x h
  · exact hb x h
theorem sOk_pad {W L G : Nat} (zs : List Nat) (hg : gOk W L = true) (hG : gN W L = (G : Int)) (hz : 8 + zs.length = W) : sOk (headW W L G ++ zs) = true := by
  have h1 : (headW W L G ++ zs).length = W := by rw [List.length_append, headW_len]; exact hz
  have h2 : gNat W L = G := by unfold gNat; rw [hG]; simp
  unfold sOk
  rw [h1, headW_3, hg, h2, List.take_left' (headW_len W L G)]
  simp; omega
set_option maxHeartbeats 1000000 in
theorem awake06 (w : World) : Calls Try.prog 8 #[] w fun e w' => e = .returned (.bool true) ∧ Below w.heap.size w w' := by
  have hE := Lib.hid (fun w => show Calls Try.prog 9 #[.agg #[.int .i64 149, .int .i64 1]] w fun e w' => ∃ g, e = .returned (.tuple #[.slice (some ⟨g, 0, none⟩) 8 8, .int .i64 0]) ∧ w.heap.size ≤ g ∧ Rw w' g (headW 149 1 2) ∧ Below w.heap.size w w' from senc_t 149 1 2 w (by decide) (by decide))
  go_enter Try.func8, Try.ntmps8
  go_wp2_with fail
  refine (hE.out _).mono ?_
  rintro e w2 ⟨ge, rfl, hge, hR, hb2⟩
  have hO := hR.own (by rw [headW_len]; omega)
  rw [headW_len] at hO
  obtain ⟨g1, c1, w3, hrun, hO3, hB3, hS3, _⟩ := appz_own (k := 141) hO (headW_len 149 1 2) (by omega) (Nat.le_of_lt hR.lt)
  have hB3' := (hb2.trans (hB3.mono hge))
  have hD := Lib.hid (dec_any _ _ w3 ((headW_WL (W := 149) (L := 1) (G := 2) (by omega) (by omega) (by omega)).app (zeros_WL 141)) (SL.of_owns' hO3 (by simp [headW_len])))
  rw [sOk_pad (W := 149) (L := 1) (G := 2) (List.replicate 141 0) (by decide) (by decide) (by simp), headW_3, show (headW 149 1 2 ++ List.replicate 141 (0 : Nat) : List Nat).length = 149 by simp [headW_len], show decR 149 1 true = .tuple #[.agg #[.int .i64 149, .int .i64 1], .int .i64 0] from rfl] at hD
  have c4 := hS3.cell 4 (by rw [headW_len]; omega)
  rw [show (headW 149 1 2).getD 4 0 = 2 by rfl, Nat.zero_add] at c4
  have hl4 : ge < w3.heap.size := hS3.lt (by rw [headW_len]; omega)
  clear hO hO3 hS3 hR hb2 hB3 hE
  have hrun' : (Builtin.append_ #[25, 3] 25 #[.slice (some ⟨ge, 0, none⟩) 8 8, .int .i64 141]).run Try.prog w2 = .ok (.slice (some ⟨g1, 0, none⟩) (8 + 141) c1) w3 := hrun
  clear hrun
  go_wp2_with (at_builtin; refine Lib.wpList_append_run _ rfl _ _ _ _ rfl _ _ rfl rfl _ _ hrun' ?_)
  refine hD.out.mono ?_
  rintro e w4 ⟨rfl, hb4⟩
  have hB4 := hB3'.trans (hb4.mono hB3'.size)
  have d4 : w4.cell? ⟨ge, 4, none⟩ = some (.int .u64 2) := ((bcell hb4).1 ge 4 hl4).trans c4
  have hl5 : ge < w4.heap.size := Nat.lt_of_lt_of_le hl4 hb4.size
  clear hrun' hD hb4 hB3'
  go_wp2_with fail
  go_ret
  exact ⟨rfl, hB4.alloc (by have := hB4.size; omega) _⟩
end Go.Proofs.Ytjmilngndoiceaa
