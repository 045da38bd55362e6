/-
  The laws of package lock: LockPlays.
-/
import Derived.Test.YtibhahbimoiaaaaLk15
import Derived.Test.YtibhahbimoiaaaaLk10
import Derived.Test.YtibhahbimoiaaaaRegX
import Derived.RangeFuncBox
set_option linter.unusedVariables false
set_option linter.unusedSimpArgs false
namespace Go.Proofs.Ytibhahbimoiaaaa
open Go.RowKit Go.ChangeShapes Go.WideShapes Go.Deep
open Go.Maps

/-- the code's table beside the document's -/
structure Both (w0 w : World) (B M n : Nat) (g : Gx) (B2 : Nat) (T : List Px) : Prop where
  tab : TabO w0 w B M n g
  cell : ∃ v, w.cell? ⟨B2, 0, none⟩ = some v ∧ w.frozen? ⟨B2, 0, none⟩ = false ∧ OwnE 84 2 pE w (B2 + 1) v T
  srt : Srt T
  hB : B < B2
  hM : M < B2
  h2 : w0.heap.size ≤ B2
theorem Both.lt2 {w0 w : World} {B M n B2 : Nat} {g : Gx} {T : List Px} (h : Both w0 w B M n g B2 T) : B2 < w.heap.size := by
  obtain ⟨v, hc, _⟩ := h.cell
  exact World.block_lt_of_cell? _ _ hc
theorem Both.keep {w0 w w' : World} {B M n B2 : Nat} {g : Gx} {T : List Px} (h : Both w0 w B M n g B2 T) (hb : Below w.heap.size w w') : Both w0 w' B M n g B2 T := by
  obtain ⟨v, hc, hf, ho⟩ := h.cell
  exact ⟨h.tab.keep hb, ⟨v, cellK hc hb, frozK hc hf hb, ho.keep hb⟩, h.srt, h.hB, h.hM, h.h2⟩
theorem Both.code {w0 w w' : World} {B M n n' B2 : Nat} {g g' : Gx} {T : List Px} (h : Both w0 w B M n g B2 T) (ht : TabO w0 w' B M n' g') (hg : w.grownBy w' (some M)) : Both w0 w' B M n' g' B2 T := by
  have hlt := h.lt2
  have hM := h.hM
  obtain ⟨v, hc, hf, ho⟩ := h.cell
  have hb := hg.block B2 hlt (by simp; omega)
  refine ⟨ht, ⟨v, by rw [World.cell?_of_block hb]; exact hc, by rw [World.frozen?_of_block hb]; exact hf, ho.kept hg ?_⟩, h.srt, h.hB, hM, h.h2⟩
  cases hv : v.ownBlock with
  | none => exact .inl rfl
  | some q => exact .inr (by have := (ho.lt q hv).1; simp; omega)
theorem Both.ref {w0 w w1 : World} {B M n B2 : Nat} {g : Gx} {T T' : List Px} {v' : Value} (h : Both w0 w B M n g B2 T) (hb : Below w.heap.size w w1) (ho : OwnE 84 2 pE w1 w.heap.size v' T') (hs : Srt T') :
    Both w0 (w1.setCell ⟨B2, 0, none⟩ v') B M n g B2 T' ∧ w.grownBy (w1.setCell ⟨B2, 0, none⟩ v') (some B2) := by
  have hlt := h.lt2
  have h1 := h.keep hb
  have hlt1 := h1.lt2
  obtain ⟨v, hc, hf, _⟩ := h1.cell
  have hg := grownBy_setCell' w1 B2 v'
  have hB := h.hB
  have hM := h.hM
  refine ⟨⟨⟨h1.tab.tab.grown hg (by simp; omega) (by simp; omega), h1.tab.hB, h1.tab.hM, h1.tab.bel.setCell (by have := h.h2; simp only []; omega) _⟩, ⟨v', by rw [World.cell?_setCell_same' _ _ _ (by rw [hc]; rfl)], by rw [World.frozen?_setCell]; exact hf, (ho.mono (by omega)).far (by omega) v'⟩, hs, hB, hM, h.h2⟩, ?_⟩
  exact (⟨hb.os, hb.tape, hb.output, hb.size, fun k hk _ => hb.block k hk⟩ : w.grownBy w1 (some B2)).trans hg
theorem C3.turned {w w' : World} {b : Nat} {x y z : Value} {row : Nat} (h : C3 w b x y z) (hg : w.grownBy w' (some row)) (hne : b ≠ row) : C3 w' b x y z := by
  have hb := hg.block b h.lt (by simpa using hne)
  exact ⟨by rw [World.cell?_of_block hb]; exact h.1, by rw [World.cell?_of_block hb]; exact h.2.1, by rw [World.cell?_of_block hb]; exact h.2.2⟩

theorem letL_filter (T : List Px) (lane : Int) : letL T lane = T.filter (fun p => decide (p.2 ≠ lane)) := by
  induction T with
  | nil => rfl
  | cons p T ih =>
    have e : letL (p :: T) lane = (if p.2 = lane then [] else [p]) ++ letL T lane := rfl
    rw [e, ih, List.filter_cons]
    by_cases q : p.2 = lane <;> simp [q]
theorem letL_srt {T : List Px} (h : Srt T) (lane : Int) : Srt (letL T lane) := by rw [letL_filter]; exact List.Pairwise.sublist List.filter_sublist h
theorem letL_g {T : List Px} (h : Srt T) (lane : Int) : gL (letL T lane) = letG (gL T) lane := by
  refine gx_ext fun x c => ?_
  rw [gL_mem (letL_srt h lane), letL_filter, List.mem_filter]
  unfold letG
  by_cases e : gL T x = some lane
  · rw [if_pos e]
    constructor
    · rintro ⟨h1, h2⟩
      rw [← gL_mem h, e] at h1
      injection h1 with h1
      simp [h1] at h2
    · intro h1; cases h1
  · rw [if_neg e, gL_mem h]
    constructor
    · exact fun h1 => h1.1
    · intro h1
      refine ⟨h1, decide_eq_true (fun q => e ?_)⟩
      rw [gL_mem h]
      simp only [] at q
      rw [q] at h1
      exact h1
theorem heldL_is {T : List Px} (h : Srt T) (lane : Int) : HeldIs (gL T) lane (heldL T lane) := by
  have e : heldL T lane = (T.filter (fun p => decide (p.2 = lane))).map (·.1) := by
    clear h
    induction T with
    | nil => rfl
    | cons p T ih =>
      have e : heldL (p :: T) lane = (if p.2 = lane then [p.1] else []) ++ heldL T lane := rfl
      rw [e, ih, List.filter_cons]
      by_cases q : p.2 = lane <;> simp [q]
  refine ⟨?_, fun x => ?_⟩
  · rw [e, List.pairwise_map]
    exact List.Pairwise.sublist List.filter_sublist h
  · rw [e, gL_mem h, List.mem_map]
    constructor
    · rintro ⟨p, hp, rfl⟩
      obtain ⟨h1, h2⟩ := List.mem_filter.1 hp
      simp only [decide_eq_true_eq] at h2
      rw [← h2]; exact h1
    · intro h1
      exact ⟨(x, lane), List.mem_filter.2 ⟨h1, by simp⟩, rfl⟩
theorem held_let_len (T : List Px) (lane : Int) : (letL T lane).length + (heldL T lane).length = T.length := by
  induction T with
  | nil => rfl
  | cons p T ih =>
    have e1 : letL (p :: T) lane = (if p.2 = lane then [] else [p]) ++ letL T lane := rfl
    have e2 : heldL (p :: T) lane = (if p.2 = lane then [p.1] else []) ++ heldL T lane := rfl
    rw [e1, e2, List.length_append, List.length_append, List.length_cons]
    by_cases q : p.2 = lane <;> simp [q] <;> omega
theorem ownL_is {T : List Px} (h : Srt T) (key : Int) : ownL T key = ownG (gL T) key := by
  clear h
  induction T with
  | nil => rfl
  | cons p T ih =>
    show (if p.1 = key then p.2 else ownL T key) = _
    unfold ownG
    show _ = (match (if p.1 = key then some p.2 else gL T key) with | some l => l | none => -1)
    by_cases q : p.1 = key
    · rw [if_pos q, if_pos q]
    · rw [if_neg q, if_neg q, ih]; rfl

section
variable {w0 w : World} {B M n B2 : Nat} {g : Gx} {T : List Px} {key lane : Int}
theorem lockC (h : Both w0 w B M n g B2 T) (hk : I64 key) (hl : I64 lane) (hn : n ≤ 10000) :
    Calls Try.prog 31 #[.pointer (some ⟨B, 0, none⟩), .int .i64 key, .int .i64 lane] w fun e w' => e = .returned (.bool (freeB g key lane)) ∧ Both w0 w' B M (n + 1) (lockG g key lane) B2 T ∧ w.grownBy w' (some M) := by
  refine (Lock_any B M n g key lane w h.tab.tab hk hl (by unfold maxLen; omega)).mono ?_
  rintro e w' ⟨rfl, ht, hg⟩
  exact ⟨rfl, h.code (h.tab.turned ht hg) hg, hg⟩
theorem lockR (h : Both w0 w B M n g B2 T) (hT : T.length ≤ 10000) :
    Calls Try.prog 32 #[.pointer (some ⟨B2, 0, none⟩), .int .i64 key, .int .i64 lane] w fun e w' => ∃ T', e = .returned (.bool (freeB (gL T) key lane)) ∧ gL T' = lockG (gL T) key lane ∧ T'.length ≤ T.length + 1 ∧ Both w0 w' B M n g B2 T' ∧ w.grownBy w' (some B2) := by
  obtain ⟨v, hc, hf, ho⟩ := h.cell
  refine (refLock_any B2 v T key lane w (by omega) h.srt hc hf (ho.el pE_len)).mono ?_
  rintro e w' (⟨c, hg, rfl, hb⟩ | ⟨hg, a, v', w1, ha, rfl, ho', hb, rfl, hs'⟩)
  · refine ⟨T, ?_, ?_, by omega, h.keep hb, ⟨hb.os, hb.tape, hb.output, hb.size, fun k hk _ => hb.block k hk⟩⟩
    · congr 2
      unfold freeB
      rw [hg]
      by_cases q : c = lane
      · subst q; simp
      · simp [q]
    · unfold lockG
      split
      · rename_i q
        rcases q with q | q
        · rw [hg] at q; cases q
        · funext x
          unfold putG
          by_cases e : x = key
          · rw [if_pos e, e, q]
          · rw [if_neg e]
      · rfl
  · have hr := h.ref hb ho' hs'
    exact ⟨insT T a key lane, by rw [(lock_free (.inl hg)).1], by rw [insT_g h.srt hs' hg, (lock_free (.inl hg)).2], by rw [insT_len ha]; omega, hr.1, hr.2⟩
theorem releaseC (h : Both w0 w B M n g B2 T) (hn : n ≤ 10000) :
    Calls Try.prog 33 #[.pointer (some ⟨B, 0, none⟩), .int .i64 lane] w fun e w' => ∃ L, e = .returned (.int .i64 ((L.length : Nat) : Int)) ∧ HeldIs g lane L ∧ Both w0 w' B M n (letG g lane) B2 T ∧ w.grownBy w' (some M) := by
  refine (Release_any B M n g lane w h.tab.tab (by omega)).mono ?_
  rintro e w' ⟨L, rfl, hL, hLn, ht, hg⟩
  exact ⟨L, rfl, hL, h.code (h.tab.turned ht hg) hg, hg⟩
theorem releaseR (h : Both w0 w B M n g B2 T) (hT : T.length ≤ 10000) :
    Calls Try.prog 34 #[.pointer (some ⟨B2, 0, none⟩), .int .i64 lane] w fun e w' => ∃ T' J, e = .returned (.int .i64 ((J.length : Nat) : Int)) ∧ HeldIs (gL T) lane J ∧ gL T' = letG (gL T) lane ∧ T'.length ≤ T.length ∧ Both w0 w' B M n g B2 T' ∧ w.grownBy w' (some B2) := by
  obtain ⟨v, hc, hf, ho⟩ := h.cell
  refine (refRelease_any B2 v T lane w (by omega) hc hf (ho.el pE_len)).mono ?_
  rintro e w' ⟨v', w1, rfl, ho', hb, rfl⟩
  have hr := h.ref hb ho' (letL_srt h.srt lane)
  have hlen := held_let_len T lane
  exact ⟨letL T lane, heldL T lane, by congr 2; omega, heldL_is h.srt lane, letL_g h.srt lane, letL_len T lane, hr.1, hr.2⟩
theorem ownerC (h : Both w0 w B M n g B2 T) (hk : I64 key) :
    Calls Try.prog 35 #[.pointer (some ⟨B, 0, none⟩), .int .i64 key] w fun e w' => e = .returned (.int .i64 (ownG g key)) ∧ Below w.heap.size w w' := by
  refine (Owner_any B M n g key w h.tab.tab hk).mono ?_
  rintro e w' ⟨rfl, rfl⟩
  exact ⟨rfl, Below.refl _ _⟩
theorem ownerR (h : Both w0 w B M n g B2 T) (hT : T.length ≤ 10000) :
    Calls Try.prog 36 #[.pointer (some ⟨B2, 0, none⟩), .int .i64 key] w fun e w' => e = .returned (.int .i64 (ownG (gL T) key)) ∧ Below w.heap.size w w' := by
  obtain ⟨v, hc, hf, ho⟩ := h.cell
  rw [← ownL_is h.srt]
  exact refOwner_any B2 v T key w (by omega) hc (ho.el pE_len)
theorem heldC (h : Both w0 w B M n g B2 T) (hn : n ≤ 10000) :
    Calls Try.prog 38 #[.pointer (some ⟨B, 0, none⟩), .int .i64 lane] w fun e w' => ∃ v L, e = .returned v ∧ EL 1 iE w' v L ∧ HeldIs g lane L ∧ L.length ≤ n ∧ Below w.heap.size w w' := by
  refine (Held_any B M n g lane w h.tab.tab (by omega)).mono ?_
  rintro e w' ⟨v, L, rfl, ho, hL, hLn, hb⟩
  exact ⟨v, L, rfl, ho.el iE_len, hL, hLn, hb⟩
theorem heldR (h : Both w0 w B M n g B2 T) (hT : T.length ≤ 10000) :
    Calls Try.prog 39 #[.pointer (some ⟨B2, 0, none⟩), .int .i64 lane] w fun e w' => ∃ v L, e = .returned v ∧ EL 1 iE w' v L ∧ HeldIs (gL T) lane L ∧ Below w.heap.size w w' := by
  obtain ⟨v, hc, hf, ho⟩ := h.cell
  refine (refHeld_any B2 v T lane w (by omega) hc (ho.el pE_len)).mono ?_
  rintro e w' ⟨v', rfl, ho', hb⟩
  exact ⟨v', _, rfl, ho'.el iE_len, heldL_is h.srt lane, hb⟩
end

set_option maxRecDepth 10000 in
set_option maxHeartbeats 4000000 in
theorem lockPlays (v : Value) (l : List Lx) (w : World) (hl : LL l) (hv : LPL w v l) (hz : l.length ≤ 9000000000000) :
    Calls Try.prog 9 #[v] w fun e w' => e = .returned (.bool true) ∧ Below w.heap.size w w' := by
  obtain ⟨n, hn⟩ : ∃ n, l.length = n := ⟨_, rfl⟩
  obtain ⟨A, cap, rfl, hC⟩ := EL.form hv hn
  have hLB := Lib.hid (fun k (hk : k < n) => hl.at (k := k) (by omega))
  replace hC := Lib.hid hC
  have hn9 : n ≤ 9223372036854775807 := by omega
  clear hl hv hn hz
  go_enter Try.func9, Try.ntmps9
  go_wp2_with fail
  refine (awake18 _).mono ?_
  rintro e w1 ⟨rfl, hb1⟩
  by_cases hlong : 60 < n
  · have h1 : (60 : Int) < (n : Int) := by omega
    go_wp2_with fail
    go_ret
    exact ⟨rfl, hb1⟩
  have h1 : ¬ (60 : Int) < (n : Int) := by omega
  go_wp2_with fail
  refine (newO w _ hb1).mono ?_
  rintro e w2 ⟨B, M, rfl, t2⟩
  have hltM := t2.tab.ltM
  have hltB := t2.tab.ltB
  have hc0 := cell_one_new w2 (.slice none 0 0) (53 : Nat) 0 _ rfl
  rw [add_plain] at hc0
  have hf0 : (w2.alloc (.cells #[.slice none 0 0] (53 : Nat))).frozen? ⟨w2.heap.size, 0, none⟩ = false := by
    have h := heap_alloc_new w2 (.cells #[.slice none 0 0] (53 : Nat))
    simp only [World.frozen?, h]
    rfl
  have hb0 : Below w2.heap.size w2 (w2.alloc (.cells #[.slice none 0 0] (53 : Nat))) := (Below.refl _ _).alloc (Nat.le_refl _) _
  have hBo : Both w (w2.alloc (.cells #[.slice none 0 0] (53 : Nat))) B M 0 (fun _ => none) w2.heap.size [] :=
    ⟨t2.keep hb0, ⟨_, hc0, hf0, OwnE.nil _ _ _ _ _⟩, List.Pairwise.nil, hltB, hltM, t2.bel.size⟩
  clear t2 hc0 hb0 hb1 hf0
  go_wp2_with fail
  obtain ⟨B2, hB2⟩ : ∃ B2, w2.heap.size = B2 := ⟨_, rfl⟩
  rw [hB2] at hBo hltM hltB ⊢
  generalize w2.alloc (.cells #[.slice none 0 0] (53 : Nat)) = w3 at *
  clear hB2
  go_loopw [6] (fun i wr => ∃ (k : Nat) (g : Gx) (T : List Px), k ≤ n ∧ i = .int .i64 k ∧ Both w wr B M k g B2 T ∧ Hid (gL T = g) ∧ T.length ≤ k) (fun i _ => n + 1 - (intOf i).toNat)
  case atStart => exact ⟨0, _, [], Nat.zero_le _, rfl, hBo, (by funext x; rfl), Nat.le_refl _⟩
  case round =>
    clear hBo
    obtain ⟨k, g, T, hk, rfl, hBr, hg, hTk⟩ := hrel
    by_cases hlt : k < n
    · obtain ⟨ga, off, rfl, hcap, _, hga, hcl⟩ := hC.out wr k hBr.tab.bel hlt
      have c0 := hcl 0 (by omega)
      have c1 := hcl 1 (by omega)
      have c2 := hcl 2 (by omega)
      clear hcl
      rw [Nat.add_zero] at c0
      have hlt' : (k : Int) < (n : Int) := by omega
      have hlb := hLB.out k hlt
      generalize l.getD k default = o at *
      obtain ⟨kd, key, lane⟩ := o
      replace c0 : wr.cell? ⟨ga, off + k * 3, none⟩ = some (.int .u8 (kd : Nat)) := c0
      replace c1 : wr.cell? ⟨ga, off + k * 3 + 1, none⟩ = some (.int .i64 key) := c1
      replace c2 : wr.cell? ⟨ga, off + k * 3 + 2, none⟩ = some (.int .i64 lane) := c2
      have hk1 : I64 key := ⟨hlb.2.1, hlb.2.2.1⟩
      have hl1 : I64 lane := ⟨hlb.2.2.2.1, hlb.2.2.2.2⟩
      clear hlb
      replace hk1 := Lib.hid hk1
      replace hl1 := Lib.hid hl1
      have hBW : Both w (wr.alloc (.cells #[.int .u8 (kd : Nat), .int .i64 key, .int .i64 lane] (55 : Nat))) B M k g B2 T := hBr.keep ((Below.refl _ _).alloc (Nat.le_refl _) _)
      have hcW := C3.new wr (.int .u8 (kd : Nat)) (.int .i64 key) (.int .i64 lane) (55 : Nat)
      have hne : B2 < wr.heap.size := hBr.lt2
      clear hBr
      by_cases q0 : kd = 0
      · subst q0
        have hLc := Lib.hid (lockC hBW hk1.out hl1.out (by omega))
        have hcWh := Lib.hid hcW
        obtain ⟨d0, d1, d2⟩ := hcW
        have e0 : (wr.alloc (.cells #[.int .u8 (0 : Nat), .int .i64 key, .int .i64 lane] (55 : Nat))).heap.size = wr.heap.size + 1 := by rw [World.size_alloc]
        clear hBW
        go_wp2_with fail
        refine hLc.out.mono ?_
        clear hLc e0 d0 d1 d2
        rintro e wA ⟨rfl, hBA, hgA⟩
        have hcA := hcWh.out.turned hgA (by have := hBA.hM; omega)
        have hLr := Lib.hid (lockR (key := key) (lane := lane) hBA (by omega))
        rw [hg.out] at hLr
        have hcAh := Lib.hid hcA
        obtain ⟨d0, d1, d2⟩ := hcA
        clear hBA hgA hcWh
        go_wp2_with fail
        refine hLr.out.mono ?_
        clear hLr d0 d1 d2
        rintro e wB ⟨T9, rfl, hg9, hT9, hB9, hgB⟩
        have hc9 := hcAh.out.turned hgB (by omega)
        replace hg9 := Lib.hid hg9
        have hn9q : k + 1 ≤ 10000 := by omega
        replace hT9 : T9.length ≤ k + 1 := by omega
        generalize freeB g key lane = fb at *
        generalize lockG g key lane = g9 at *
        have t0 : (fb != fb) = false := by simp
        have hc9h := Lib.hid hc9
        obtain ⟨d0, d1, d2⟩ := hc9
        clear hcAh hgB hg
        go_wp2_with fail
        clear d0 d1 d2
        refine wp_region_held_drew (S := (fun w' => C3 w' wr.heap.size (.int .u8 (0 : Nat)) (.int .i64 key) (.int .i64 lane) ∧ Both w w' B M (k + 1) g9 B2 T9)) (by kernel_rfl) ?_ (fun hHeld => ?_)
        · (try dsimp only)
          (first | assumption | exact hHeld | (exact ⟨hHeld.1.keep hb, hHeld.2.keep hb⟩) | (exact ⟨hc9h.out, hB9.keep ((Below.refl _ _).drew)⟩))
        refine takeL 0 (v := ?_) rfl (by kernel_rfl) (by kernel_rfl) (by kernel_rfl) (fun _ _ _ h => h) (by rfl) (by assumption) ?_ ?_
        rotate_left
        · (intro w hSw; (try dsimp only at hSw); obtain ⟨⟨z0, z1, z2⟩, zB⟩ := hSw; go_simp <;> with_reducible rfl)
        try simp only [Act.put, List.setIfInBounds_toArray, List.set_cons_zero, List.set_cons_succ]
        refine takeL 1 (v := ?_) rfl (by kernel_rfl) (by kernel_rfl) (by kernel_rfl) (fun _ _ _ h => h) (by rfl) (by assumption) ?_ ?_
        rotate_left
        · (intro w hSw; (try dsimp only at hSw); obtain ⟨⟨z0, z1, z2⟩, zB⟩ := hSw; go_simp <;> with_reducible rfl)
        try simp only [Act.put, List.setIfInBounds_toArray, List.set_cons_zero, List.set_cons_succ]
        refine takeL 2 (v := ?_) rfl (by kernel_rfl) (by kernel_rfl) (by kernel_rfl) (fun _ _ _ h => h) (by rfl) (by assumption) ?_ ?_
        rotate_left
        · (intro w hSw; (try dsimp only at hSw); obtain ⟨⟨z0, z1, z2⟩, zB⟩ := hSw; go_simp <;> with_reducible rfl)
        try simp only [Act.put, List.setIfInBounds_toArray, List.set_cons_zero, List.set_cons_succ]
        refine takeL 4 (v := ?_) rfl (by kernel_rfl) (by kernel_rfl) (by kernel_rfl) (fun _ _ _ h => h) (by rfl) (by assumption) ?_ ?_
        rotate_left
        · (intro w hSw; (try dsimp only at hSw); obtain ⟨⟨z0, z1, z2⟩, zB⟩ := hSw; go_simp <;> with_reducible rfl)
        try simp only [Act.put, List.setIfInBounds_toArray, List.set_cons_zero, List.set_cons_succ]
        refine takeL 5 (v := ?_) rfl (by kernel_rfl) (by kernel_rfl) (by kernel_rfl) (fun _ _ _ h => h) (by rfl) (by assumption) ?_ ?_
        rotate_left
        · (intro w hSw; (try dsimp only at hSw); obtain ⟨⟨z0, z1, z2⟩, zB⟩ := hSw; go_simp <;> with_reducible rfl)
        try simp only [Act.put, List.setIfInBounds_toArray, List.set_cons_zero, List.set_cons_succ]
        refine takeL 6 (v := ?_) rfl (by kernel_rfl) (by kernel_rfl) (by kernel_rfl) (fun _ _ _ h => h) (by rfl) (by assumption) ?_ ?_
        rotate_left
        · (intro w hSw; (try dsimp only at hSw); obtain ⟨⟨z0, z1, z2⟩, zB⟩ := hSw; go_simp <;> with_reducible rfl)
        try simp only [Act.put, List.setIfInBounds_toArray, List.set_cons_zero, List.set_cons_succ]
        refine oneL 3 rfl (by kernel_rfl) (fun K hK => ?_)
        go_simp
        (obtain ⟨_, hq⟩ := id hHeld; refine (ownerC hq hk1.out).mono ?_; rintro e w8 ⟨rfl, hb⟩)
        refine hK.out _ _ ?_ (fun hHeld2 => ?_)
        · (try dsimp only)
          (first | assumption | exact hHeld | (exact ⟨hHeld.1.keep hb, hHeld.2.keep hb⟩) | (exact ⟨hc9h.out, hB9.keep ((Below.refl _ _).drew)⟩))
        clear hK K hHeld
        have hHeld := hHeld2
        clear hHeld2
        try simp only [Act.put, List.setIfInBounds_toArray, List.set_cons_zero, List.set_cons_succ]
        refine oneL 7 rfl (by kernel_rfl) (fun K hK => ?_)
        go_simp
        (obtain ⟨_, hq⟩ := id hHeld; have hO := ownerR (key := key) hq (by omega); rw [hg9.out] at hO; refine hO.mono ?_; clear hO; rintro e w8 ⟨rfl, hb⟩)
        refine hK.out _ _ ?_ (fun hHeld2 => ?_)
        · (try dsimp only)
          (first | assumption | exact hHeld | (exact ⟨hHeld.1.keep hb, hHeld.2.keep hb⟩) | (exact ⟨hc9h.out, hB9.keep ((Below.refl _ _).drew)⟩))
        clear hK K hHeld
        have hHeld := hHeld2
        clear hHeld2
        try simp only [Act.put, List.setIfInBounds_toArray, List.set_cons_zero, List.set_cons_succ]
        refine takeL 8 (v := ?_) rfl (by kernel_rfl) (by kernel_rfl) (by kernel_rfl) (fun _ _ _ h => h) (by rfl) (by assumption) ?_ ?_
        rotate_left
        · (intro w hSw; (try dsimp only at hSw); obtain ⟨⟨z0, z1, z2⟩, zB⟩ := hSw; go_simp <;> with_reducible rfl)
        try simp only [Act.put, List.setIfInBounds_toArray, List.set_cons_zero, List.set_cons_succ]
        refine takeL 9 (v := ?_) rfl (by kernel_rfl) (by kernel_rfl) (by kernel_rfl) (fun _ _ _ h => h) (by rfl) (by assumption) ?_ ?_
        rotate_left
        · (intro w hSw; (try dsimp only at hSw); obtain ⟨⟨z0, z1, z2⟩, zB⟩ := hSw; go_simp <;> with_reducible rfl)
        try simp only [Act.put, List.setIfInBounds_toArray, List.set_cons_zero, List.set_cons_succ]
        refine takeL 10 (v := ?_) rfl (by kernel_rfl) (by kernel_rfl) (by kernel_rfl) (fun _ _ _ h => h) (by rfl) (by assumption) ?_ ?_
        rotate_left
        · (intro w hSw; (try dsimp only at hSw); obtain ⟨⟨z0, z1, z2⟩, zB⟩ := hSw; go_simp <;> with_reducible rfl)
        try simp only [Act.put, List.setIfInBounds_toArray, List.set_cons_zero, List.set_cons_succ]
        refine takeL 11 (v := ?_) rfl (by kernel_rfl) (by kernel_rfl) (by kernel_rfl) (fun _ _ _ h => h) (by rfl) (by assumption) ?_ ?_
        rotate_left
        · (intro w hSw; (try dsimp only at hSw); obtain ⟨⟨z0, z1, z2⟩, zB⟩ := hSw; go_simp <;> with_reducible rfl)
        try simp only [Act.put, List.setIfInBounds_toArray, List.set_cons_zero, List.set_cons_succ]
        refine takeL 12 (v := ?_) rfl (by kernel_rfl) (by kernel_rfl) (by kernel_rfl) (fun _ _ _ h => h) (by rfl) (by assumption) ?_ ?_
        rotate_left
        · (intro w hSw; (try dsimp only at hSw); obtain ⟨⟨z0, z1, z2⟩, zB⟩ := hSw; go_simp <;> with_reducible rfl)
        try simp only [Act.put, List.setIfInBounds_toArray, List.set_cons_zero, List.set_cons_succ]
        refine takeL 14 (v := ?_) rfl (by kernel_rfl) (by kernel_rfl) (by kernel_rfl) (fun _ _ _ h => h) (by rfl) (by assumption) ?_ ?_
        rotate_left
        · (intro w hSw; (try dsimp only at hSw); obtain ⟨⟨z0, z1, z2⟩, zB⟩ := hSw; go_simp <;> with_reducible rfl)
        try simp only [Act.put, List.setIfInBounds_toArray, List.set_cons_zero, List.set_cons_succ]
        refine takeL 15 (v := ?_) rfl (by kernel_rfl) (by kernel_rfl) (by kernel_rfl) (fun _ _ _ h => h) (by rfl) (by assumption) ?_ ?_
        rotate_left
        · (intro w hSw; (try dsimp only at hSw); obtain ⟨⟨z0, z1, z2⟩, zB⟩ := hSw; go_simp <;> with_reducible rfl)
        try simp only [Act.put, List.setIfInBounds_toArray, List.set_cons_zero, List.set_cons_succ]
        refine takeL 16 (v := ?_) rfl (by kernel_rfl) (by kernel_rfl) (by kernel_rfl) (fun _ _ _ h => h) (by rfl) (by assumption) ?_ ?_
        rotate_left
        · (intro w hSw; (try dsimp only at hSw); obtain ⟨⟨z0, z1, z2⟩, zB⟩ := hSw; go_simp <;> with_reducible rfl)
        try simp only [Act.put, List.setIfInBounds_toArray, List.set_cons_zero, List.set_cons_succ]
        refine oneL 13 rfl (by kernel_rfl) (fun K hK => ?_)
        go_simp
        (obtain ⟨_, hq⟩ := id hHeld; refine (heldC (lane := lane) hq hn9q).mono ?_; rintro e w8 ⟨vX, X, rfl, pX, hX, hXn, hb⟩; replace hX := Lib.hid hX)
        refine hK.out _ _ ?_ (fun hHeld2 => ?_)
        · (try dsimp only)
          (first | assumption | exact hHeld | (exact ⟨hHeld.1.keep hb, hHeld.2.keep hb⟩) | (exact ⟨hc9h.out, hB9.keep ((Below.refl _ _).drew)⟩))
        clear hK K hHeld
        have hHeld := hHeld2
        clear hHeld2
        try simp only [Act.put, List.setIfInBounds_toArray, List.set_cons_zero, List.set_cons_succ]
        refine oneL 17 rfl (by kernel_rfl) (fun K hK => ?_)
        go_simp
        (obtain ⟨_, hq⟩ := id hHeld; refine (heldR (lane := lane) hq (by omega)).mono ?_; rw [hg9.out]; rintro e w8 ⟨vY, Y, rfl, pY, hY, hb⟩; obtain rfl := hY.uniq hX.out; replace pX := pX.keep hb; clear hY)
        refine hK.out _ _ ?_ (fun hHeld2 => ?_)
        · (try dsimp only)
          (first | assumption | exact hHeld | (exact ⟨hHeld.1.keep hb, hHeld.2.keep hb⟩) | (exact ⟨hc9h.out, hB9.keep ((Below.refl _ _).drew)⟩))
        clear hK K hHeld
        have hHeld := hHeld2
        clear hHeld2
        try simp only [Act.put, List.setIfInBounds_toArray, List.set_cons_zero, List.set_cons_succ]
        refine oneL 18 rfl (by kernel_rfl) (fun K hK => ?_)
        go_simp
        (have hI := ints_any _ _ _ _ _ (by omega) pX pY; simp only [decide_true] at hI; refine hI.mono ?_; clear hI pX pY; rintro e w8 ⟨rfl, hb⟩)
        refine hK.out _ _ ?_ (fun hHeld2 => ?_)
        · (try dsimp only)
          (first | assumption | exact hHeld | (exact ⟨hHeld.1.keep hb, hHeld.2.keep hb⟩) | (exact ⟨hc9h.out, hB9.keep ((Below.refl _ _).drew)⟩))
        clear hK K hHeld
        have hHeld := hHeld2
        clear hHeld2
        try simp only [Act.put, List.setIfInBounds_toArray, List.set_cons_zero, List.set_cons_succ]
        refine takeL 19 (v := ?_) rfl (by kernel_rfl) (by kernel_rfl) (by kernel_rfl) (fun _ _ _ h => h) (by rfl) (by assumption) ?_ ?_
        rotate_left
        · (intro w hSw; (try dsimp only at hSw); obtain ⟨⟨z0, z1, z2⟩, zB⟩ := hSw; go_simp <;> with_reducible rfl)
        try simp only [Act.put, List.setIfInBounds_toArray, List.set_cons_zero, List.set_cons_succ]
        refine takeL 20 (v := ?_) rfl (by kernel_rfl) (by kernel_rfl) (by kernel_rfl) (fun _ _ _ h => h) (by rfl) (by assumption) ?_ ?_
        rotate_left
        · (intro w hSw; (try dsimp only at hSw); obtain ⟨⟨z0, z1, z2⟩, zB⟩ := hSw; go_simp <;> with_reducible rfl)
        try simp only [Act.put, List.setIfInBounds_toArray, List.set_cons_zero, List.set_cons_succ]
        refine wpAnyH_done (by kernel_rfl) ?_ _
        obtain ⟨_, hBd⟩ := hHeld
        replace hBd := Lib.hid hBd
        go_wp2_with fail
        go_roundw
        case rel => exact ⟨k + 1, _, _, by omega, by go_num, hBd.out, hg9.out, hT9⟩
        case measure => simp [intOf]; omega
      have f0 : ((kd : Int) == (0 : Int)) = false := by rw [beq_eq_false_iff_ne]; omega
      by_cases q3 : kd = 3
      · subst q3
        have hLc := Lib.hid (releaseC (lane := lane) hBW (by omega))
        have hcWh := Lib.hid hcW
        obtain ⟨d0, d1, d2⟩ := hcW
        clear hBW
        go_wp2_with fail
        refine hLc.out.mono ?_
        clear hLc d0 d1 d2
        rintro e wA ⟨L, rfl, hL, hBA, hgA⟩
        have hcA := hcWh.out.turned hgA (by have := hBA.hM; omega)
        have hLr := Lib.hid (releaseR (lane := lane) hBA (by omega))
        rw [hg.out] at hLr
        have hcAh := Lib.hid hcA
        obtain ⟨d0, d1, d2⟩ := hcA
        clear hBA hgA hcWh
        replace hL := Lib.hid hL
        go_wp2_with fail
        refine hLr.out.mono ?_
        clear hLr d0 d1 d2
        rintro e wB ⟨T9, J, rfl, hJ, hg9, hT9, hB9, hgB⟩
        obtain rfl := hJ.uniq hL.out
        have hc9 := hcAh.out.turned hgB (by omega)
        replace hg9 := Lib.hid hg9
        replace hB9 : Both w wB B M (k + 1) (letG g lane) B2 T9 := ⟨⟨hB9.tab.tab.mono (by omega), hB9.tab.hB, hB9.tab.hM, hB9.tab.bel⟩, hB9.cell, hB9.srt, hB9.hB, hB9.hM, hB9.h2⟩
        have hn9q : k + 1 ≤ 10000 := by omega
        replace hT9 : T9.length ≤ k + 1 := by omega
        generalize J.length = jl at *
        generalize letG g lane = g9 at *
        have t0 : ((jl : Int) != (jl : Int)) = false := by simp
        have hc9h := Lib.hid hc9
        obtain ⟨d0, d1, d2⟩ := hc9
        clear hcAh hgB hg hJ hL
        go_wp2_with fail
        clear d0 d1 d2
        refine wp_region_held_drew (S := (fun w' => C3 w' wr.heap.size (.int .u8 (3 : Nat)) (.int .i64 key) (.int .i64 lane) ∧ Both w w' B M (k + 1) g9 B2 T9)) (by kernel_rfl) ?_ (fun hHeld => ?_)
        · (try dsimp only)
          (first | assumption | exact hHeld | (exact ⟨hHeld.1.keep hb, hHeld.2.keep hb⟩) | (exact ⟨hc9h.out, hB9.keep ((Below.refl _ _).drew)⟩))
        refine takeL 0 (v := ?_) rfl (by kernel_rfl) (by kernel_rfl) (by kernel_rfl) (fun _ _ _ h => h) (by rfl) (by assumption) ?_ ?_
        rotate_left
        · (intro w hSw; (try dsimp only at hSw); obtain ⟨⟨z0, z1, z2⟩, zB⟩ := hSw; go_simp <;> with_reducible rfl)
        try simp only [Act.put, List.setIfInBounds_toArray, List.set_cons_zero, List.set_cons_succ]
        refine takeL 1 (v := ?_) rfl (by kernel_rfl) (by kernel_rfl) (by kernel_rfl) (fun _ _ _ h => h) (by rfl) (by assumption) ?_ ?_
        rotate_left
        · (intro w hSw; (try dsimp only at hSw); obtain ⟨⟨z0, z1, z2⟩, zB⟩ := hSw; go_simp <;> with_reducible rfl)
        try simp only [Act.put, List.setIfInBounds_toArray, List.set_cons_zero, List.set_cons_succ]
        refine takeL 2 (v := ?_) rfl (by kernel_rfl) (by kernel_rfl) (by kernel_rfl) (fun _ _ _ h => h) (by rfl) (by assumption) ?_ ?_
        rotate_left
        · (intro w hSw; (try dsimp only at hSw); obtain ⟨⟨z0, z1, z2⟩, zB⟩ := hSw; go_simp <;> with_reducible rfl)
        try simp only [Act.put, List.setIfInBounds_toArray, List.set_cons_zero, List.set_cons_succ]
        refine takeL 4 (v := ?_) rfl (by kernel_rfl) (by kernel_rfl) (by kernel_rfl) (fun _ _ _ h => h) (by rfl) (by assumption) ?_ ?_
        rotate_left
        · (intro w hSw; (try dsimp only at hSw); obtain ⟨⟨z0, z1, z2⟩, zB⟩ := hSw; go_simp <;> with_reducible rfl)
        try simp only [Act.put, List.setIfInBounds_toArray, List.set_cons_zero, List.set_cons_succ]
        refine takeL 5 (v := ?_) rfl (by kernel_rfl) (by kernel_rfl) (by kernel_rfl) (fun _ _ _ h => h) (by rfl) (by assumption) ?_ ?_
        rotate_left
        · (intro w hSw; (try dsimp only at hSw); obtain ⟨⟨z0, z1, z2⟩, zB⟩ := hSw; go_simp <;> with_reducible rfl)
        try simp only [Act.put, List.setIfInBounds_toArray, List.set_cons_zero, List.set_cons_succ]
        refine takeL 6 (v := ?_) rfl (by kernel_rfl) (by kernel_rfl) (by kernel_rfl) (fun _ _ _ h => h) (by rfl) (by assumption) ?_ ?_
        rotate_left
        · (intro w hSw; (try dsimp only at hSw); obtain ⟨⟨z0, z1, z2⟩, zB⟩ := hSw; go_simp <;> with_reducible rfl)
        try simp only [Act.put, List.setIfInBounds_toArray, List.set_cons_zero, List.set_cons_succ]
        refine oneL 3 rfl (by kernel_rfl) (fun K hK => ?_)
        go_simp
        (obtain ⟨_, hq⟩ := id hHeld; refine (ownerC hq hk1.out).mono ?_; rintro e w8 ⟨rfl, hb⟩)
        refine hK.out _ _ ?_ (fun hHeld2 => ?_)
        · (try dsimp only)
          (first | assumption | exact hHeld | (exact ⟨hHeld.1.keep hb, hHeld.2.keep hb⟩) | (exact ⟨hc9h.out, hB9.keep ((Below.refl _ _).drew)⟩))
        clear hK K hHeld
        have hHeld := hHeld2
        clear hHeld2
        try simp only [Act.put, List.setIfInBounds_toArray, List.set_cons_zero, List.set_cons_succ]
        refine oneL 7 rfl (by kernel_rfl) (fun K hK => ?_)
        go_simp
        (obtain ⟨_, hq⟩ := id hHeld; have hO := ownerR (key := key) hq (by omega); rw [hg9.out] at hO; refine hO.mono ?_; clear hO; rintro e w8 ⟨rfl, hb⟩)
        refine hK.out _ _ ?_ (fun hHeld2 => ?_)
        · (try dsimp only)
          (first | assumption | exact hHeld | (exact ⟨hHeld.1.keep hb, hHeld.2.keep hb⟩) | (exact ⟨hc9h.out, hB9.keep ((Below.refl _ _).drew)⟩))
        clear hK K hHeld
        have hHeld := hHeld2
        clear hHeld2
        try simp only [Act.put, List.setIfInBounds_toArray, List.set_cons_zero, List.set_cons_succ]
        refine takeL 8 (v := ?_) rfl (by kernel_rfl) (by kernel_rfl) (by kernel_rfl) (fun _ _ _ h => h) (by rfl) (by assumption) ?_ ?_
        rotate_left
        · (intro w hSw; (try dsimp only at hSw); obtain ⟨⟨z0, z1, z2⟩, zB⟩ := hSw; go_simp <;> with_reducible rfl)
        try simp only [Act.put, List.setIfInBounds_toArray, List.set_cons_zero, List.set_cons_succ]
        refine takeL 9 (v := ?_) rfl (by kernel_rfl) (by kernel_rfl) (by kernel_rfl) (fun _ _ _ h => h) (by rfl) (by assumption) ?_ ?_
        rotate_left
        · (intro w hSw; (try dsimp only at hSw); obtain ⟨⟨z0, z1, z2⟩, zB⟩ := hSw; go_simp <;> with_reducible rfl)
        try simp only [Act.put, List.setIfInBounds_toArray, List.set_cons_zero, List.set_cons_succ]
        refine takeL 10 (v := ?_) rfl (by kernel_rfl) (by kernel_rfl) (by kernel_rfl) (fun _ _ _ h => h) (by rfl) (by assumption) ?_ ?_
        rotate_left
        · (intro w hSw; (try dsimp only at hSw); obtain ⟨⟨z0, z1, z2⟩, zB⟩ := hSw; go_simp <;> with_reducible rfl)
        try simp only [Act.put, List.setIfInBounds_toArray, List.set_cons_zero, List.set_cons_succ]
        refine takeL 11 (v := ?_) rfl (by kernel_rfl) (by kernel_rfl) (by kernel_rfl) (fun _ _ _ h => h) (by rfl) (by assumption) ?_ ?_
        rotate_left
        · (intro w hSw; (try dsimp only at hSw); obtain ⟨⟨z0, z1, z2⟩, zB⟩ := hSw; go_simp <;> with_reducible rfl)
        try simp only [Act.put, List.setIfInBounds_toArray, List.set_cons_zero, List.set_cons_succ]
        refine takeL 12 (v := ?_) rfl (by kernel_rfl) (by kernel_rfl) (by kernel_rfl) (fun _ _ _ h => h) (by rfl) (by assumption) ?_ ?_
        rotate_left
        · (intro w hSw; (try dsimp only at hSw); obtain ⟨⟨z0, z1, z2⟩, zB⟩ := hSw; go_simp <;> with_reducible rfl)
        try simp only [Act.put, List.setIfInBounds_toArray, List.set_cons_zero, List.set_cons_succ]
        refine takeL 14 (v := ?_) rfl (by kernel_rfl) (by kernel_rfl) (by kernel_rfl) (fun _ _ _ h => h) (by rfl) (by assumption) ?_ ?_
        rotate_left
        · (intro w hSw; (try dsimp only at hSw); obtain ⟨⟨z0, z1, z2⟩, zB⟩ := hSw; go_simp <;> with_reducible rfl)
        try simp only [Act.put, List.setIfInBounds_toArray, List.set_cons_zero, List.set_cons_succ]
        refine takeL 15 (v := ?_) rfl (by kernel_rfl) (by kernel_rfl) (by kernel_rfl) (fun _ _ _ h => h) (by rfl) (by assumption) ?_ ?_
        rotate_left
        · (intro w hSw; (try dsimp only at hSw); obtain ⟨⟨z0, z1, z2⟩, zB⟩ := hSw; go_simp <;> with_reducible rfl)
        try simp only [Act.put, List.setIfInBounds_toArray, List.set_cons_zero, List.set_cons_succ]
        refine takeL 16 (v := ?_) rfl (by kernel_rfl) (by kernel_rfl) (by kernel_rfl) (fun _ _ _ h => h) (by rfl) (by assumption) ?_ ?_
        rotate_left
        · (intro w hSw; (try dsimp only at hSw); obtain ⟨⟨z0, z1, z2⟩, zB⟩ := hSw; go_simp <;> with_reducible rfl)
        try simp only [Act.put, List.setIfInBounds_toArray, List.set_cons_zero, List.set_cons_succ]
        refine oneL 13 rfl (by kernel_rfl) (fun K hK => ?_)
        go_simp
        (obtain ⟨_, hq⟩ := id hHeld; refine (heldC (lane := lane) hq hn9q).mono ?_; rintro e w8 ⟨vX, X, rfl, pX, hX, hXn, hb⟩; replace hX := Lib.hid hX)
        refine hK.out _ _ ?_ (fun hHeld2 => ?_)
        · (try dsimp only)
          (first | assumption | exact hHeld | (exact ⟨hHeld.1.keep hb, hHeld.2.keep hb⟩) | (exact ⟨hc9h.out, hB9.keep ((Below.refl _ _).drew)⟩))
        clear hK K hHeld
        have hHeld := hHeld2
        clear hHeld2
        try simp only [Act.put, List.setIfInBounds_toArray, List.set_cons_zero, List.set_cons_succ]
        refine oneL 17 rfl (by kernel_rfl) (fun K hK => ?_)
        go_simp
        (obtain ⟨_, hq⟩ := id hHeld; refine (heldR (lane := lane) hq (by omega)).mono ?_; rw [hg9.out]; rintro e w8 ⟨vY, Y, rfl, pY, hY, hb⟩; obtain rfl := hY.uniq hX.out; replace pX := pX.keep hb; clear hY)
        refine hK.out _ _ ?_ (fun hHeld2 => ?_)
        · (try dsimp only)
          (first | assumption | exact hHeld | (exact ⟨hHeld.1.keep hb, hHeld.2.keep hb⟩) | (exact ⟨hc9h.out, hB9.keep ((Below.refl _ _).drew)⟩))
        clear hK K hHeld
        have hHeld := hHeld2
        clear hHeld2
        try simp only [Act.put, List.setIfInBounds_toArray, List.set_cons_zero, List.set_cons_succ]
        refine oneL 18 rfl (by kernel_rfl) (fun K hK => ?_)
        go_simp
        (have hI := ints_any _ _ _ _ _ (by omega) pX pY; simp only [decide_true] at hI; refine hI.mono ?_; clear hI pX pY; rintro e w8 ⟨rfl, hb⟩)
        refine hK.out _ _ ?_ (fun hHeld2 => ?_)
        · (try dsimp only)
          (first | assumption | exact hHeld | (exact ⟨hHeld.1.keep hb, hHeld.2.keep hb⟩) | (exact ⟨hc9h.out, hB9.keep ((Below.refl _ _).drew)⟩))
        clear hK K hHeld
        have hHeld := hHeld2
        clear hHeld2
        try simp only [Act.put, List.setIfInBounds_toArray, List.set_cons_zero, List.set_cons_succ]
        refine takeL 19 (v := ?_) rfl (by kernel_rfl) (by kernel_rfl) (by kernel_rfl) (fun _ _ _ h => h) (by rfl) (by assumption) ?_ ?_
        rotate_left
        · (intro w hSw; (try dsimp only at hSw); obtain ⟨⟨z0, z1, z2⟩, zB⟩ := hSw; go_simp <;> with_reducible rfl)
        try simp only [Act.put, List.setIfInBounds_toArray, List.set_cons_zero, List.set_cons_succ]
        refine takeL 20 (v := ?_) rfl (by kernel_rfl) (by kernel_rfl) (by kernel_rfl) (fun _ _ _ h => h) (by rfl) (by assumption) ?_ ?_
        rotate_left
        · (intro w hSw; (try dsimp only at hSw); obtain ⟨⟨z0, z1, z2⟩, zB⟩ := hSw; go_simp <;> with_reducible rfl)
        try simp only [Act.put, List.setIfInBounds_toArray, List.set_cons_zero, List.set_cons_succ]
        refine wpAnyH_done (by kernel_rfl) ?_ _
        obtain ⟨_, hBd⟩ := hHeld
        replace hBd := Lib.hid hBd
        go_wp2_with fail
        go_roundw
        case rel => exact ⟨k + 1, _, _, by omega, by go_num, hBd.out, hg9.out, hT9⟩
        case measure => simp [intOf]; omega
      · have f3 : ((kd : Int) == (3 : Int)) = false := by rw [beq_eq_false_iff_ne]; omega
        have hB9 : Both w (wr.alloc (.cells #[.int .u8 (kd : Nat), .int .i64 key, .int .i64 lane] (55 : Nat))) B M (k + 1) g B2 T := ⟨⟨hBW.tab.tab.mono (by omega), hBW.tab.hB, hBW.tab.hM, hBW.tab.bel⟩, hBW.cell, hBW.srt, hBW.hB, hBW.hM, hBW.h2⟩
        have hn9q : k + 1 ≤ 10000 := by omega
        have hT9 : T.length ≤ k + 1 := by omega
        have hg9 := hg
        have hc9h := Lib.hid hcW
        obtain ⟨d0, d1, d2⟩ := hcW
        clear hBW
        go_wp2_with fail
        clear d0 d1 d2
        refine wp_region_held_drew (S := (fun w' => C3 w' wr.heap.size (.int .u8 (kd : Nat)) (.int .i64 key) (.int .i64 lane) ∧ Both w w' B M (k + 1) g B2 T)) (by kernel_rfl) ?_ (fun hHeld => ?_)
        · (try dsimp only)
          (first | assumption | exact hHeld | (exact ⟨hHeld.1.keep hb, hHeld.2.keep hb⟩) | (exact ⟨hc9h.out, hB9.keep ((Below.refl _ _).drew)⟩))
        refine takeL 0 (v := ?_) rfl (by kernel_rfl) (by kernel_rfl) (by kernel_rfl) (fun _ _ _ h => h) (by rfl) (by assumption) ?_ ?_
        rotate_left
        · (intro w hSw; (try dsimp only at hSw); obtain ⟨⟨z0, z1, z2⟩, zB⟩ := hSw; go_simp <;> with_reducible rfl)
        try simp only [Act.put, List.setIfInBounds_toArray, List.set_cons_zero, List.set_cons_succ]
        refine takeL 1 (v := ?_) rfl (by kernel_rfl) (by kernel_rfl) (by kernel_rfl) (fun _ _ _ h => h) (by rfl) (by assumption) ?_ ?_
        rotate_left
        · (intro w hSw; (try dsimp only at hSw); obtain ⟨⟨z0, z1, z2⟩, zB⟩ := hSw; go_simp <;> with_reducible rfl)
        try simp only [Act.put, List.setIfInBounds_toArray, List.set_cons_zero, List.set_cons_succ]
        refine takeL 2 (v := ?_) rfl (by kernel_rfl) (by kernel_rfl) (by kernel_rfl) (fun _ _ _ h => h) (by rfl) (by assumption) ?_ ?_
        rotate_left
        · (intro w hSw; (try dsimp only at hSw); obtain ⟨⟨z0, z1, z2⟩, zB⟩ := hSw; go_simp <;> with_reducible rfl)
        try simp only [Act.put, List.setIfInBounds_toArray, List.set_cons_zero, List.set_cons_succ]
        refine takeL 4 (v := ?_) rfl (by kernel_rfl) (by kernel_rfl) (by kernel_rfl) (fun _ _ _ h => h) (by rfl) (by assumption) ?_ ?_
        rotate_left
        · (intro w hSw; (try dsimp only at hSw); obtain ⟨⟨z0, z1, z2⟩, zB⟩ := hSw; go_simp <;> with_reducible rfl)
        try simp only [Act.put, List.setIfInBounds_toArray, List.set_cons_zero, List.set_cons_succ]
        refine takeL 5 (v := ?_) rfl (by kernel_rfl) (by kernel_rfl) (by kernel_rfl) (fun _ _ _ h => h) (by rfl) (by assumption) ?_ ?_
        rotate_left
        · (intro w hSw; (try dsimp only at hSw); obtain ⟨⟨z0, z1, z2⟩, zB⟩ := hSw; go_simp <;> with_reducible rfl)
        try simp only [Act.put, List.setIfInBounds_toArray, List.set_cons_zero, List.set_cons_succ]
        refine takeL 6 (v := ?_) rfl (by kernel_rfl) (by kernel_rfl) (by kernel_rfl) (fun _ _ _ h => h) (by rfl) (by assumption) ?_ ?_
        rotate_left
        · (intro w hSw; (try dsimp only at hSw); obtain ⟨⟨z0, z1, z2⟩, zB⟩ := hSw; go_simp <;> with_reducible rfl)
        try simp only [Act.put, List.setIfInBounds_toArray, List.set_cons_zero, List.set_cons_succ]
        refine oneL 3 rfl (by kernel_rfl) (fun K hK => ?_)
        go_simp
        (obtain ⟨_, hq⟩ := id hHeld; refine (ownerC hq hk1.out).mono ?_; rintro e w8 ⟨rfl, hb⟩)
        refine hK.out _ _ ?_ (fun hHeld2 => ?_)
        · (try dsimp only)
          (first | assumption | exact hHeld | (exact ⟨hHeld.1.keep hb, hHeld.2.keep hb⟩) | (exact ⟨hc9h.out, hB9.keep ((Below.refl _ _).drew)⟩))
        clear hK K hHeld
        have hHeld := hHeld2
        clear hHeld2
        try simp only [Act.put, List.setIfInBounds_toArray, List.set_cons_zero, List.set_cons_succ]
        refine oneL 7 rfl (by kernel_rfl) (fun K hK => ?_)
        go_simp
        (obtain ⟨_, hq⟩ := id hHeld; have hO := ownerR (key := key) hq (by omega); rw [hg9.out] at hO; refine hO.mono ?_; clear hO; rintro e w8 ⟨rfl, hb⟩)
        refine hK.out _ _ ?_ (fun hHeld2 => ?_)
        · (try dsimp only)
          (first | assumption | exact hHeld | (exact ⟨hHeld.1.keep hb, hHeld.2.keep hb⟩) | (exact ⟨hc9h.out, hB9.keep ((Below.refl _ _).drew)⟩))
        clear hK K hHeld
        have hHeld := hHeld2
        clear hHeld2
        try simp only [Act.put, List.setIfInBounds_toArray, List.set_cons_zero, List.set_cons_succ]
        refine takeL 8 (v := ?_) rfl (by kernel_rfl) (by kernel_rfl) (by kernel_rfl) (fun _ _ _ h => h) (by rfl) (by assumption) ?_ ?_
        rotate_left
        · (intro w hSw; (try dsimp only at hSw); obtain ⟨⟨z0, z1, z2⟩, zB⟩ := hSw; go_simp <;> with_reducible rfl)
        try simp only [Act.put, List.setIfInBounds_toArray, List.set_cons_zero, List.set_cons_succ]
        refine takeL 9 (v := ?_) rfl (by kernel_rfl) (by kernel_rfl) (by kernel_rfl) (fun _ _ _ h => h) (by rfl) (by assumption) ?_ ?_
        rotate_left
        · (intro w hSw; (try dsimp only at hSw); obtain ⟨⟨z0, z1, z2⟩, zB⟩ := hSw; go_simp <;> with_reducible rfl)
        try simp only [Act.put, List.setIfInBounds_toArray, List.set_cons_zero, List.set_cons_succ]
        refine takeL 10 (v := ?_) rfl (by kernel_rfl) (by kernel_rfl) (by kernel_rfl) (fun _ _ _ h => h) (by rfl) (by assumption) ?_ ?_
        rotate_left
        · (intro w hSw; (try dsimp only at hSw); obtain ⟨⟨z0, z1, z2⟩, zB⟩ := hSw; go_simp <;> with_reducible rfl)
        try simp only [Act.put, List.setIfInBounds_toArray, List.set_cons_zero, List.set_cons_succ]
        refine takeL 11 (v := ?_) rfl (by kernel_rfl) (by kernel_rfl) (by kernel_rfl) (fun _ _ _ h => h) (by rfl) (by assumption) ?_ ?_
        rotate_left
        · (intro w hSw; (try dsimp only at hSw); obtain ⟨⟨z0, z1, z2⟩, zB⟩ := hSw; go_simp <;> with_reducible rfl)
        try simp only [Act.put, List.setIfInBounds_toArray, List.set_cons_zero, List.set_cons_succ]
        refine takeL 12 (v := ?_) rfl (by kernel_rfl) (by kernel_rfl) (by kernel_rfl) (fun _ _ _ h => h) (by rfl) (by assumption) ?_ ?_
        rotate_left
        · (intro w hSw; (try dsimp only at hSw); obtain ⟨⟨z0, z1, z2⟩, zB⟩ := hSw; go_simp <;> with_reducible rfl)
        try simp only [Act.put, List.setIfInBounds_toArray, List.set_cons_zero, List.set_cons_succ]
        refine takeL 14 (v := ?_) rfl (by kernel_rfl) (by kernel_rfl) (by kernel_rfl) (fun _ _ _ h => h) (by rfl) (by assumption) ?_ ?_
        rotate_left
        · (intro w hSw; (try dsimp only at hSw); obtain ⟨⟨z0, z1, z2⟩, zB⟩ := hSw; go_simp <;> with_reducible rfl)
        try simp only [Act.put, List.setIfInBounds_toArray, List.set_cons_zero, List.set_cons_succ]
        refine takeL 15 (v := ?_) rfl (by kernel_rfl) (by kernel_rfl) (by kernel_rfl) (fun _ _ _ h => h) (by rfl) (by assumption) ?_ ?_
        rotate_left
        · (intro w hSw; (try dsimp only at hSw); obtain ⟨⟨z0, z1, z2⟩, zB⟩ := hSw; go_simp <;> with_reducible rfl)
        try simp only [Act.put, List.setIfInBounds_toArray, List.set_cons_zero, List.set_cons_succ]
        refine takeL 16 (v := ?_) rfl (by kernel_rfl) (by kernel_rfl) (by kernel_rfl) (fun _ _ _ h => h) (by rfl) (by assumption) ?_ ?_
        rotate_left
        · (intro w hSw; (try dsimp only at hSw); obtain ⟨⟨z0, z1, z2⟩, zB⟩ := hSw; go_simp <;> with_reducible rfl)
        try simp only [Act.put, List.setIfInBounds_toArray, List.set_cons_zero, List.set_cons_succ]
        refine oneL 13 rfl (by kernel_rfl) (fun K hK => ?_)
        go_simp
        (obtain ⟨_, hq⟩ := id hHeld; refine (heldC (lane := lane) hq hn9q).mono ?_; rintro e w8 ⟨vX, X, rfl, pX, hX, hXn, hb⟩; replace hX := Lib.hid hX)
        refine hK.out _ _ ?_ (fun hHeld2 => ?_)
        · (try dsimp only)
          (first | assumption | exact hHeld | (exact ⟨hHeld.1.keep hb, hHeld.2.keep hb⟩) | (exact ⟨hc9h.out, hB9.keep ((Below.refl _ _).drew)⟩))
        clear hK K hHeld
        have hHeld := hHeld2
        clear hHeld2
        try simp only [Act.put, List.setIfInBounds_toArray, List.set_cons_zero, List.set_cons_succ]
        refine oneL 17 rfl (by kernel_rfl) (fun K hK => ?_)
        go_simp
        (obtain ⟨_, hq⟩ := id hHeld; refine (heldR (lane := lane) hq (by omega)).mono ?_; rw [hg9.out]; rintro e w8 ⟨vY, Y, rfl, pY, hY, hb⟩; obtain rfl := hY.uniq hX.out; replace pX := pX.keep hb; clear hY)
        refine hK.out _ _ ?_ (fun hHeld2 => ?_)
        · (try dsimp only)
          (first | assumption | exact hHeld | (exact ⟨hHeld.1.keep hb, hHeld.2.keep hb⟩) | (exact ⟨hc9h.out, hB9.keep ((Below.refl _ _).drew)⟩))
        clear hK K hHeld
        have hHeld := hHeld2
        clear hHeld2
        try simp only [Act.put, List.setIfInBounds_toArray, List.set_cons_zero, List.set_cons_succ]
        refine oneL 18 rfl (by kernel_rfl) (fun K hK => ?_)
        go_simp
        (have hI := ints_any _ _ _ _ _ (by omega) pX pY; simp only [decide_true] at hI; refine hI.mono ?_; clear hI pX pY; rintro e w8 ⟨rfl, hb⟩)
        refine hK.out _ _ ?_ (fun hHeld2 => ?_)
        · (try dsimp only)
          (first | assumption | exact hHeld | (exact ⟨hHeld.1.keep hb, hHeld.2.keep hb⟩) | (exact ⟨hc9h.out, hB9.keep ((Below.refl _ _).drew)⟩))
        clear hK K hHeld
        have hHeld := hHeld2
        clear hHeld2
        try simp only [Act.put, List.setIfInBounds_toArray, List.set_cons_zero, List.set_cons_succ]
        refine takeL 19 (v := ?_) rfl (by kernel_rfl) (by kernel_rfl) (by kernel_rfl) (fun _ _ _ h => h) (by rfl) (by assumption) ?_ ?_
        rotate_left
        · (intro w hSw; (try dsimp only at hSw); obtain ⟨⟨z0, z1, z2⟩, zB⟩ := hSw; go_simp <;> with_reducible rfl)
        try simp only [Act.put, List.setIfInBounds_toArray, List.set_cons_zero, List.set_cons_succ]
        refine takeL 20 (v := ?_) rfl (by kernel_rfl) (by kernel_rfl) (by kernel_rfl) (fun _ _ _ h => h) (by rfl) (by assumption) ?_ ?_
        rotate_left
        · (intro w hSw; (try dsimp only at hSw); obtain ⟨⟨z0, z1, z2⟩, zB⟩ := hSw; go_simp <;> with_reducible rfl)
        try simp only [Act.put, List.setIfInBounds_toArray, List.set_cons_zero, List.set_cons_succ]
        refine wpAnyH_done (by kernel_rfl) ?_ _
        obtain ⟨_, hBd⟩ := hHeld
        replace hBd := Lib.hid hBd
        go_wp2_with fail
        go_roundw
        case rel => exact ⟨k + 1, _, _, by omega, by go_num, hBd.out, hg9.out, hT9⟩
        case measure => simp [intOf]; omega
    · obtain rfl : k = n := by omega
      have hBe := hBr.tab.bel
      clear hBr
      go_wp2_with fail
      go_ret
      exact ⟨rfl, hBe⟩
end Go.Proofs.Ytibhahbimoiaaaa
