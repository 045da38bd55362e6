/-
  Words 0 behind a row of words; what is scattered over places that are unlike.
-/
import Derived.Test.YtddfhgdejlkdgaaPc18
import Derived.Lib.AppendZerosOnto
import Derived.Laws.CopyOwn
set_option linter.unusedVariables false
set_option linter.unusedSimpArgs false
namespace Go.Proofs.Ytddfhgdejlkdgaa
open Go.RowKit

theorem zerosL (k : Nat) : (Builtin.zeroCells (Value.int .u64 0).cells k).toList = (List.replicate k 0).map fun x : Nat => Value.int .u64 x := by
  unfold Builtin.zeroCells
  simp [Value.cells, Nat.mod_one]
  apply List.ext_getElem
  · simp
  · intro i h1 h2
    simp [Nat.mod_one]
set_option maxHeartbeats 1000000 in
theorem appZ {w : World} {base k : Nat} {v : Value} {xs : List Nat} (hown : OwnU w base v xs) (hsm : xs.length + k ≤ 1000000) (hk : 0 < k) (hbase : base ≤ w.heap.size) :
    ∃ v1 w1, (Builtin.append_ #[34, 3] 34 #[v, .int .i64 k]).run Try.prog w = .ok v1 w1 ∧ OwnU w1 base v1 (xs ++ List.replicate k 0) ∧ Below base w w1 := by
  obtain ⟨i0, hi, hz0, hz1, hz2⟩ := info_parts infoU64
  have ht : Try.prog.underlying 34 = some (.slice 43) := Try.underlying34
  have htn : Try.prog.underlying 3 = some (.int .i64) := Try.underlying3
  have hw : IntKind.i64.wrap (k : Int) = k := by rw [IntKind.wrap_i64]; omega
  have hold0 := fun (g : Nat) (hg : v.ownBlock = some g) => World.ownsRow.cells hown hg
  unfold OwnU
  obtain ⟨n, hn⟩ : ∃ n, xs.length = n := ⟨_, rfl⟩
  rw [List.length_append, List.map_append, List.length_replicate]
  rw [hn] at hsm ⊢
  unfold OwnU at hown
  rw [hn] at hown
  obtain ⟨hl0, hr⟩ := hown
  have new : ∀ (A : Option Addr) (cap : Nat), cap < n + k → (Builtin.firstCells i0.size n (.slice A n cap)).run Try.prog w.drew = .ok (xs.map fun x : Nat => Value.int .u64 x).toArray w.drew →
      ∃ v1 w1, (Builtin.append_ #[34, 3] 34 #[.slice A n cap, .int .i64 k]).run Try.prog w = .ok v1 w1 ∧ w1.ownsRow base 43 1 v1 (n + k) ((xs.map fun x : Nat => Value.int .u64 x) ++ ((List.replicate k 0).map fun x : Nat => Value.int .u64 x)) ∧ Below base w w1 := by
    intro A cap hge hfc
    have hrun := Lib.run_append_grow_zeros (P := Try.prog) w 34 3 34 43 i0 (.int .u64 0) .i64 .i64 ht htn hi hz0 A n cap (xs.map fun x : Nat => Value.int .u64 x) hfc k (by omega) (by rw [hz1]; omega) hge (by omega) (by rw [hz2]; omega) (growslice_fits hge (by rw [hz2]; omega))
    have hcg : n + k ≤ grownCap w (n + k) cap 43 := grownCap_ge w (n + k) cap _
    have hcm : grownCap w (n + k) cap 43 ≤ maxLen := grownCap_le_maxLen w (n + k) cap _ (by unfold maxLen; omega)
    refine ⟨_, _, hrun, ⟨by simp [hn], .inr ⟨w.heap.size, _, _, rfl, hbase, heap_alloc_new w.drew _, hcg, hcm, ?_, ?_⟩⟩, ((Below.refl _ _).drew.alloc (Nat.le_refl _) _).mono hbase⟩
    · simp [size_zeroCells, Value.cells, hn]; omega
    · simp only [Array.toList_append, zerosL, List.append_assoc, Nat.mul_one]
      rw [← List.append_assoc]
      exact List.take_left' (by simp [hn])
  rcases hr with ⟨rfl, h0⟩ | ⟨g, cap, cur, rfl, hbg, hg, h1, h2, h3, h4⟩
  · have hx : xs = [] := List.eq_nil_of_length_eq_zero (by rw [hn]; simpa using h0)
    subst hx
    simp at hn
    subst hn
    exact new none 0 (by omega) (by simp [Builtin.firstCells])
  rw [Nat.mul_one] at h3 h4
  by_cases hroom : n + k ≤ cap
  · have hst := run_storeCells_at (P := Try.prog) g n 43 (List.replicate k (Value.int .u64 0)) 0 cur w hg (by simp; omega) (by intro v hv; rw [List.eq_of_mem_replicate hv]; rfl)
    rw [Nat.add_zero, List.length_replicate] at hst
    have hns : ¬ (k * i0.size = 0) := by rw [hz1]; omega
    have hneg : ¬ ((k : Int) < 0) := by omega
    have hk0 : ¬ (k = 0) := by omega
    have h48 : ¬ (281474976710656 < (k : Int) * (i0.bytes : Int)) := by rw [hz2]; omega
    have hzl : (Builtin.zeroCells (Value.int .u64 0).cells k).toList = List.replicate k (Value.int .u64 0) := by rw [zerosL]; simp
    have hrow : (w.setRow g (cur.toList.take n ++ List.replicate k (Value.int .u64 0) ++ cur.toList.drop (n + k)).toArray).heap[g]? = some (.cells (cur.toList.take n ++ List.replicate k (Value.int .u64 0) ++ cur.toList.drop (n + k)).toArray 43 (0, 0)) := setRow_heap w g _ _ _ _ hg
    refine ⟨.slice (some ⟨g, 0, none⟩) (n + k) cap, _, ?_, ⟨by simp [hn], .inr ⟨g, cap, _, rfl, hbg, hrow, hroom, h2, ?_, ?_⟩⟩, below_setRow (Below.refl _ _) hbg _⟩
    · simp [Builtin.append_, run_underlying ht, run_underlying htn, sizeOf, typeInfo, zeroValue, hi, hz0, asInt, asIntOf, hw, hroom, hneg, h48, hns, hk0, hzl]
      rw [hz1, Nat.mul_one, show (⟨g, 0, none⟩ : Addr).add n = ⟨g, n, none⟩ by rw [Addr.add_lit, Nat.zero_add], hst]
      simp [Result.andThen]
    · simp; omega
    · rw [Nat.mul_one, h4]
      simp [List.take_append, hn, List.take_of_length_le]
  · exact new _ cap (by omega) (run_firstCells_some (P := Try.prog) w.drew i0.size n ⟨g, 0, none⟩ n cap (xs.map fun x : Nat => Value.int .u64 x) (by simp [hn, hz1]) (fun j v hj => hold0 g rfl j v hj))

theorem pwL_mem (x : Sp) (m : Nat) (y : Int) : y ∈ pwL x m ↔ x.1 ≤ y ∧ y < x.1 + m := by
  unfold pwL
  constructor
  · intro h
    obtain ⟨i, hi, rfl⟩ := List.mem_map.1 h
    have := List.mem_range.1 hi
    omega
  · intro ⟨h1, h2⟩
    exact List.mem_map.2 ⟨(y - x.1).toNat, List.mem_range.2 (by omega), by omega⟩
theorem placesL_mem (l : List Sp) (y : Int) : y ∈ placesL l ↔ SHas l y := by
  unfold placesL SHas SIn
  rw [List.mem_flatMap]
  constructor
  · rintro ⟨x, hx, h⟩
    have := (pwL_mem _ _ _).1 h
    exact ⟨x, hx, by omega, by omega⟩
  · rintro ⟨x, hx, h1, h2⟩
    exact ⟨x, hx, (pwL_mem _ _ _).2 ⟨h1, by omega⟩⟩
theorem pwL_nodup (x : Sp) (m : Nat) : (pwL x m).Nodup := by
  unfold pwL
  exact List.Pairwise.map _ (fun a b h e => h (by simp at e; omega)) List.nodup_range
theorem placesL_nodup : ∀ {l : List Sp}, SRight l → (placesL l).Nodup
  | [], _ => by simp [placesL]
  | x :: l, h => by
    obtain ⟨h1, h2, h3⟩ := SRight.cons.1 h
    show (pwL x x.2.toNat ++ placesL l).Nodup
    rw [List.nodup_append]
    refine ⟨pwL_nodup _ _, placesL_nodup h3, fun a ha b hb => ?_⟩
    have h4 := (pwL_mem _ _ _).1 ha
    have h5 := SRight.tail h ((placesL_mem l b).1 hb)
    omega
theorem set_getD (l : List Nat) (i j v : Nat) (hi : i < l.length) : (l.set i v).getD j 0 = if i = j then v else l.getD j 0 := by
  rw [List.getD_eq_getElem?_getD, List.getD_eq_getElem?_getD, List.getElem?_set]
  by_cases h : i = j
  · subst h; simp [hi]
  · simp [h]
theorem scatN_at (I : List Nat) (P : List Int) (ws : List Nat) (hR : ∀ j, j < P.length → 0 ≤ P.getD j 0 ∧ P.getD j 0 < (I.length : Int)) (hN : ∀ i j, i < j → j < P.length → P.getD i 0 ≠ P.getD j 0) :
    ∀ k, k ≤ P.length → (∀ j, j < k → (scatN I P ws k).getD (P.getD j 0).toNat 0 = ws.getD j 0) ∧ (∀ i : Nat, (∀ j, j < k → P.getD j 0 ≠ (i : Int)) → (scatN I P ws k).getD i 0 = I.getD i 0)
  | 0, _ => ⟨fun j h => by omega, fun i _ => rfl⟩
  | k + 1, hk => by
    obtain ⟨a, b⟩ := scatN_at I P ws hR hN k (by omega)
    obtain ⟨r1, r2⟩ := hR k (by omega)
    unfold scatN
    rw [if_pos ⟨r1, r2⟩]
    have hl : (P.getD k 0).toNat < (scatN I P ws k).length := by rw [scatN_len]; omega
    refine ⟨fun j hj => ?_, fun i hi => ?_⟩
    · rw [set_getD _ _ _ _ hl]
      by_cases e : j = k
      · subst e; rw [if_pos rfl]
      · have hne := hN j k (by omega) (by omega)
        have := hR j (by omega)
        rw [if_neg (by omega)]
        exact a j (by omega)
    · rw [set_getD _ _ _ _ hl]
      have := hi k (by omega)
      rw [if_neg (by omega)]
      exact b i (fun j hj => hi j (by omega))
theorem nodup_ne {P : List Int} (h : P.Nodup) : ∀ i j, i < j → j < P.length → P.getD i 0 ≠ P.getD j 0 := by
  intro i j hij hj
  rw [List.getD_eq_getElem?_getD, List.getD_eq_getElem?_getD, List.getElem?_eq_getElem hj, List.getElem?_eq_getElem (by omega : i < P.length)]
  simp only [Option.getD_some]
  intro e
  have := (List.getElem_inj h).1 e
  omega
theorem mem_getD {P : List Int} {y : Int} : y ∈ P ↔ ∃ j, j < P.length ∧ P.getD j 0 = y := by
  constructor
  · intro h
    obtain ⟨j, hj, rfl⟩ := List.mem_iff_getElem.1 h
    exact ⟨j, hj, by rw [List.getD_eq_getElem?_getD, List.getElem?_eq_getElem hj]; rfl⟩
  · rintro ⟨j, hj, rfl⟩
    rw [List.getD_eq_getElem?_getD, List.getElem?_eq_getElem hj]
    exact List.getElem_mem hj
/-- what is scattered over right pieces within an image -/
theorem scat_right {I ws : List Nat} {l : List Sp} (hl : PBs l) (hr : SRight l) (hb : ∀ x ∈ l, x.1 + x.2 ≤ (I.length : Int)) :
    ∀ j, j < (placesL l).length → 0 ≤ (placesL l).getD j 0 ∧ (placesL l).getD j 0 < (I.length : Int) := by
  intro j hj
  have hm := mem_getD.2 ⟨j, hj, rfl⟩
  have h0 := (places_nn hl _ hm).1
  obtain ⟨x, hx, h1, h2⟩ := (placesL_mem _ _).1 hm
  have := hb x hx
  omega
theorem gath_scat {I ws : List Nat} {l : List Sp} (hl : PBs l) (hr : SRight l) (hb : ∀ x ∈ l, x.1 + x.2 ≤ (I.length : Int)) (hws : (placesL l).length ≤ ws.length) :
    gathL (scatN I (placesL l) ws (placesL l).length) l = ws.take (placesL l).length := by
  obtain ⟨a, _⟩ := scatN_at I (placesL l) ws (scat_right (ws := ws) hl hr hb) (nodup_ne (placesL_nodup hr)) _ (Nat.le_refl _)
  have r := scat_right (ws := ws) hl hr hb
  unfold gathL
  generalize placesL l = P at *
  apply List.ext_getElem
  · simp; omega
  · intro i h1 h2
    have hi : i < P.length := by simpa using h1
    have h3 := a i hi
    have h4 := r i hi
    rw [List.getElem_map, List.getElem_take]
    rw [List.getD_eq_getElem?_getD, List.getD_eq_getElem?_getD, List.getD_eq_getElem?_getD, List.getElem?_eq_getElem hi, List.getElem?_eq_getElem (by omega : i < ws.length)] at h3
    rw [List.getD_eq_getElem?_getD, List.getElem?_eq_getElem hi] at h4
    simp only [Option.getD_some] at h3 h4
    unfold imgAt
    rw [if_pos h4.1, List.getD_eq_getElem?_getD]
    exact h3
theorem scat_miss {I ws : List Nat} {l : List Sp} (hl : PBs l) (hr : SRight l) (hb : ∀ x ∈ l, x.1 + x.2 ≤ (I.length : Int)) (i : Nat) (hh : hasB l (i : Int) = false) :
    (scatN I (placesL l) ws (placesL l).length).getD i 0 = I.getD i 0 := by
  obtain ⟨_, b⟩ := scatN_at I (placesL l) ws (scat_right (ws := ws) hl hr hb) (nodup_ne (placesL_nodup hr)) _ (Nat.le_refl _)
  refine b i (fun j hj e => ?_)
  have := (placesL_mem l i).1 (mem_getD.2 ⟨j, hj, e⟩)
  rw [(hasB_iff _ _).2 this] at hh
  cases hh
theorem scat_back {I ws : List Nat} {l : List Sp} (hl : PBs l) (hr : SRight l) (hb : ∀ x ∈ l, x.1 + x.2 ≤ (I.length : Int)) :
    scatN (scatN I (placesL l) ws (placesL l).length) (placesL l) (gathL I l) (placesL l).length = I := by
  have hlen : (scatN I (placesL l) ws (placesL l).length).length = I.length := scatN_len _ _ _ _
  have hb' : ∀ x ∈ l, x.1 + x.2 ≤ ((scatN I (placesL l) ws (placesL l).length).length : Int) := by rw [hlen]; exact hb
  obtain ⟨a, _⟩ := scatN_at (scatN I (placesL l) ws (placesL l).length) (placesL l) (gathL I l) (scat_right (ws := ws) hl hr hb') (nodup_ne (placesL_nodup hr)) _ (Nat.le_refl _)
  have r := scat_right (ws := ws) hl hr hb
  apply List.ext_getElem
  · rw [scatN_len, hlen]
  · intro i h1 h2
    have e : ∀ (L : List Nat) (h : i < L.length), L[i] = L.getD i 0 := fun L h => by rw [List.getD_eq_getElem?_getD, List.getElem?_eq_getElem h]; rfl
    rw [e _ h1, e _ h2]
    cases hh : hasB l (i : Int) with
    | false => rw [scat_miss hl hr hb' i hh, scat_miss hl hr hb i hh]
    | true =>
      obtain ⟨j, hj, he⟩ := mem_getD.1 ((placesL_mem l i).2 ((hasB_iff _ _).1 hh))
      have h3 := a j hj
      rw [he] at h3
      rw [Int.toNat_natCast] at h3
      rw [h3]
      unfold gathL
      rw [List.getD_eq_getElem?_getD, List.getElem?_map, List.getElem?_eq_getElem hj]
      rw [List.getD_eq_getElem?_getD, List.getElem?_eq_getElem hj] at he
      simp only [Option.getD_some] at he
      simp only [Option.map_some, Option.getD_some, he]
      rw [imgAt_nat]
end Go.Proofs.Ytddfhgdejlkdgaa
