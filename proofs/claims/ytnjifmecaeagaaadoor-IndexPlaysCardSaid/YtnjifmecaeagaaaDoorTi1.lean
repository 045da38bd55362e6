/-
  Chunks, live blocks and rows in memory: lists of them, and what tells them apart (package tile).
-/
import Derived.Test.YtnjifmecaeagaaaDoorTiM
import Derived.Test.YtnjifmecaeagaaaDoorGt
import Derived.Test.YtnjifmecaeagaaaDoorTc8
import Derived.Test.YtnjifmecaeagaaaDoorRegW
import Derived.Test.YtnjifmecaeagaaaDoorRegS
import Derived.Test.YtnjifmecaeagaaaDoorTold
set_option linter.unusedVariables false
set_option linter.unusedSimpArgs false
namespace Go.Proofs.YtnjifmecaeagaaaDoor
open Go.RowKit Go.ChangeShapes Go.WideShapes Go.Deep

def eC (x : Nat) : List Value := [.int .i64 (kN x : Nat), .int .i64 (cN x : Nat), .int .i64 (lnN x : Nat), .int .i64 (mN x : Nat), .int .u64 (bN x : Nat)]
def vC (x : Nat) : Value := .agg #[.int .i64 (kN x : Nat), .int .i64 (cN x : Nat), .int .i64 (lnN x : Nat), .int .i64 (mN x : Nat), .int .u64 (bN x : Nat)]
theorem eC_len (x : Nat) : (eC x).length = 5 := rfl
theorem infoC : (Tryd.prog.info? 29).map (fun i => (i.zero, i.size, i.bytes)) = some (some (.agg #[.int .i64 0, .int .i64 0, .int .i64 0, .int .i64 0, .int .u64 0]), 5, 40) := by kernel_rfl
theorem cT : ElT Tryd.prog 24 29 5 40 eC :=
  ⟨Tryd.underlying24, by obtain ⟨i0, h1, h2, h3, h4⟩ := info_parts infoC; exact ⟨i0, _, h1, h2, h3, h4, rfl⟩, eC_len, fun x u hu => by simp only [eC, List.mem_cons, List.not_mem_nil, or_false] at hu; rcases hu with rfl | rfl | rfl | rfl | rfl <;> rfl, by decide, by decide⟩
def eB (b : Bl) : List Value := [.int .i64 (b.1 : Nat), .int .i64 (b.2.1 : Nat), .int .i64 (b.2.2 : Nat)]
theorem eB_len (x : Bl) : (eB x).length = 3 := rfl
theorem infoB : (Tryd.prog.info? 44).map (fun i => (i.zero, i.size, i.bytes)) = some (some (.agg #[.int .i64 0, .int .i64 0, .int .i64 0]), 3, 24) := by kernel_rfl
theorem bT : ElT Tryd.prog 34 44 3 24 eB :=
  ⟨Tryd.underlying34, by obtain ⟨i0, h1, h2, h3, h4⟩ := info_parts infoB; exact ⟨i0, _, h1, h2, h3, h4, rfl⟩, eB_len, fun x u hu => by simp only [eB, List.mem_cons, List.not_mem_nil, or_false] at hu; rcases hu with rfl | rfl | rfl <;> rfl, by decide, by decide⟩
def eP (s : Nat × Nat) : List Value := [.int .i64 (s.1 : Nat), .int .i64 (s.2 : Nat)]
theorem eP_len (x : Nat × Nat) : (eP x).length = 2 := rfl
theorem infoP : (Tryd.prog.info? 46).map (fun i => (i.zero, i.size, i.bytes)) = some (some (.agg #[.int .i64 0, .int .i64 0]), 2, 16) := by kernel_rfl
theorem pT : ElT Tryd.prog 37 46 2 16 eP :=
  ⟨Tryd.underlying37, by obtain ⟨i0, h1, h2, h3, h4⟩ := info_parts infoP; exact ⟨i0, _, h1, h2, h3, h4, rfl⟩, eP_len, fun x u hu => by simp only [eP, List.mem_cons, List.not_mem_nil, or_false] at hu; rcases hu with rfl | rfl <;> rfl, by decide, by decide⟩
/-- a list of chunks in memory, by their words -/
abbrev CKL (w : World) (v : Value) (l : List Nat) : Prop := EL 5 eC w v l
abbrev CKO (w : World) (base : Nat) (v : Value) (l : List Nat) : Prop := OwnE 29 5 eC w base v l
abbrev BKL (w : World) (v : Value) (l : List Bl) : Prop := EL 3 eB w v l
abbrev BKO (w : World) (base : Nat) (v : Value) (l : List Bl) : Prop := OwnE 44 3 eB w base v l
abbrev PKL (w : World) (v : Value) (l : List (Nat × Nat)) : Prop := EL 2 eP w v l
abbrev PKO (w : World) (base : Nat) (v : Value) (l : List (Nat × Nat)) : Prop := OwnE 46 2 eP w base v l
theorem gN (x : Nat) : getI (x : Int) 0 3 = (kN x : Nat) ∧ getI (x : Int) 3 2 = (cN x : Nat) ∧ getI (x : Int) 5 6 = (lnN x : Nat) ∧ getI (x : Int) 11 13 = (mN x : Nat) ∧ getI (x : Int) 24 8 = (bN x : Nat) := by
  obtain ⟨h0, h1, h2, h3, h4⟩ := gets (x : Int) (by omega)
  rw [h0, h1, h2, h3, h4]
  clear h0 h1 h2 h3 h4
  unfold kN cN lnN mN bN
  refine ⟨?_, ?_, ?_, ?_, ?_⟩ <;> simp only [Int.natCast_emod, Int.natCast_ediv] <;> rfl
theorem rightN_B (x : Nat) : RightN x ↔ (x < 4294967296 ∧ RightP (kN x : Nat) (cN x : Nat) (lnN x : Nat) (mN x : Nat) (bN x : Nat)) := by
  unfold RightN RightP
  generalize kN x = k
  generalize cN x = c
  generalize lnN x = l
  generalize mN x = m
  generalize bN x = b
  constructor
  · rintro ⟨h0, h | h | h | h⟩
    · exact ⟨h0, .inl (by omega)⟩
    · exact ⟨h0, .inr (.inl (by omega))⟩
    · exact ⟨h0, .inr (.inr (.inl (by omega)))⟩
    · exact ⟨h0, .inr (.inr (.inr (by omega)))⟩
  · rintro ⟨h0, h | h | h | h⟩
    · exact ⟨h0, .inl (by omega)⟩
    · exact ⟨h0, .inr (.inl (by omega))⟩
    · exact ⟨h0, .inr (.inr (.inl (by omega)))⟩
    · exact ⟨h0, .inr (.inr (.inr (by omega)))⟩
theorem okN_dec (x : Nat) : decB (x : Int) = okN x := by
  obtain ⟨h0, h1, h2, h3, h4⟩ := gN x
  unfold decB rightB okN
  rw [h0, h1, h2, h3, h4, Bool.eq_iff_iff, Bool.and_eq_true, decide_eq_true_iff, decide_eq_true_iff, decide_eq_true_iff, rightN_B]
  constructor
  · rintro ⟨a, b⟩; exact ⟨by omega, a⟩
  · rintro ⟨a, b⟩; exact ⟨b, by omega⟩
theorem dcY (x : Nat) (w : World) (hw : Lw w) (h1 : x < 18446744073709551616) (h : okN x = true) :
    Calls Tryd.prog 31 #[.int .u64 (x : Nat)] w fun e w' => e = .returned (.tuple #[.agg #[.int .i64 (kN x : Nat), .int .i64 (cN x : Nat), .int .i64 (lnN x : Nat), .int .i64 (mN x : Nat), .int .u64 (bN x : Nat)], .bool true]) ∧ Below w.heap.size w w' := by
  have := dec_yes (x : Int) w hw (by omega) (by omega) ((okN_dec x).trans h)
  obtain ⟨h0, h1, h2, h3, h4⟩ := gN x
  rwa [h0, h1, h2, h3, h4] at this
theorem dcN (x : Nat) (w : World) (hw : Lw w) (h1 : x < 18446744073709551616) (h : okN x = false) :
    Calls Tryd.prog 31 #[.int .u64 (x : Nat)] w fun e w' => e = .returned (.tuple #[.agg #[.int .i64 0, .int .i64 0, .int .i64 0, .int .i64 0, .int .u64 0], .bool false]) ∧ Below w.heap.size w w' :=
  dec_no (x : Int) w hw (by omega) (by omega) ((okN_dec x).trans h)
theorem rdcY (x : Nat) (w : World) (hw : Lw w) (h1 : x < 18446744073709551616) (h : okN x = true) :
    Calls Tryd.prog 58 #[.int .u64 (x : Nat)] w fun e w' => e = .returned (.tuple #[.agg #[.int .i64 (kN x : Nat), .int .i64 (cN x : Nat), .int .i64 (lnN x : Nat), .int .i64 (mN x : Nat), .int .u64 (bN x : Nat)], .bool true]) ∧ Below w.heap.size w w' := by
  have := refDecode_any (x : Int) w hw (by omega) (by omega)
  obtain ⟨h0, h1, h2, h3, h4⟩ := gN x
  unfold decV at this
  rw [okN_dec, h, if_pos rfl] at this
  rwa [h0, h1, h2, h3, h4] at this
theorem rdcN (x : Nat) (w : World) (hw : Lw w) (h1 : x < 18446744073709551616) (h : okN x = false) :
    Calls Tryd.prog 58 #[.int .u64 (x : Nat)] w fun e w' => e = .returned (.tuple #[.agg #[.int .i64 0, .int .i64 0, .int .i64 0, .int .i64 0, .int .u64 0], .bool false]) ∧ Below w.heap.size w w' := by
  have := refDecode_any (x : Int) w hw (by omega) (by omega)
  unfold decV at this
  rw [okN_dec, h, if_neg (by simp)] at this
  exact this
theorem word_of (x : Nat) (h : okN x = true) : wordI (kN x : Nat) (cN x : Nat) (lnN x : Nat) (mN x : Nat) (bN x : Nat) = (x : Nat) := by
  have := okN_t h
  unfold RightN at this
  unfold wordI
  have e0 : kN x = x % 8 := rfl
  have e1 : cN x = x / 8 % 4 := rfl
  have e2 : lnN x = x / 32 % 64 := rfl
  have e3 : mN x = x / 2048 % 8192 := rfl
  have e4 : bN x = x / 16777216 % 256 := rfl
  omega
/-- what a list's element has in its five cells -/
theorem CKL.form {w : World} {v : Value} {l : List Nat} {n : Nat} (h : CKL w v l) (hn : l.length = n) : ∃ A cap, v = .slice A n cap ∧
    ∀ w1 i, Below w.heap.size w w1 → i < n → ∃ g off, A = some ⟨g, off, none⟩ ∧ n ≤ cap ∧ g < w.heap.size ∧ g < w1.heap.size ∧ w1.cell? ⟨g, off + i * 5, none⟩ = some (.int .i64 (kN (l.getD i 0) : Nat)) ∧ w1.cell? ⟨g, off + i * 5 + 1, none⟩ = some (.int .i64 (cN (l.getD i 0) : Nat)) ∧ w1.cell? ⟨g, off + i * 5 + 2, none⟩ = some (.int .i64 (lnN (l.getD i 0) : Nat)) ∧ w1.cell? ⟨g, off + i * 5 + 3, none⟩ = some (.int .i64 (mN (l.getD i 0) : Nat)) ∧ w1.cell? ⟨g, off + i * 5 + 4, none⟩ = some (.int .u64 (bN (l.getD i 0) : Nat)) := by
  obtain ⟨A, cap, hv, h⟩ := EL.form h hn
  refine ⟨A, cap, hv, fun w1 i hb hi => ?_⟩
  obtain ⟨g, off, hA, h1, h2, h3, hc⟩ := h w1 i hb hi
  exact ⟨g, off, hA, h1, h2, h3, hc 0 (by omega), hc 1 (by omega), hc 2 (by omega), hc 3 (by omega), hc 4 (by omega)⟩
theorem BKL.form {w : World} {v : Value} {l : List Bl} {n : Nat} (h : BKL w v l) (hn : l.length = n) : ∃ A cap, v = .slice A n cap ∧
    ∀ w1 i, Below w.heap.size w w1 → i < n → ∃ g off, A = some ⟨g, off, none⟩ ∧ n ≤ cap ∧ g < w.heap.size ∧ g < w1.heap.size ∧ w1.cell? ⟨g, off + i * 3, none⟩ = some (.int .i64 ((l.getD i default).1 : Nat)) ∧ w1.cell? ⟨g, off + i * 3 + 1, none⟩ = some (.int .i64 ((l.getD i default).2.1 : Nat)) ∧ w1.cell? ⟨g, off + i * 3 + 2, none⟩ = some (.int .i64 ((l.getD i default).2.2 : Nat)) := by
  obtain ⟨A, cap, hv, h⟩ := EL.form h hn
  refine ⟨A, cap, hv, fun w1 i hb hi => ?_⟩
  obtain ⟨g, off, hA, h1, h2, h3, hc⟩ := h w1 i hb hi
  exact ⟨g, off, hA, h1, h2, h3, hc 0 (by omega), hc 1 (by omega), hc 2 (by omega)⟩
theorem PKL.form {w : World} {v : Value} {l : List (Nat × Nat)} {n : Nat} (h : PKL w v l) (hn : l.length = n) : ∃ A cap, v = .slice A n cap ∧
    ∀ w1 i, Below w.heap.size w w1 → i < n → ∃ g off, A = some ⟨g, off, none⟩ ∧ n ≤ cap ∧ g < w.heap.size ∧ g < w1.heap.size ∧ w1.cell? ⟨g, off + i * 2, none⟩ = some (.int .i64 ((l.getD i default).1 : Nat)) ∧ w1.cell? ⟨g, off + i * 2 + 1, none⟩ = some (.int .i64 ((l.getD i default).2 : Nat)) := by
  obtain ⟨A, cap, hv, h⟩ := EL.form h hn
  refine ⟨A, cap, hv, fun w1 i hb hi => ?_⟩
  obtain ⟨g, off, hA, h1, h2, h3, hc⟩ := h w1 i hb hi
  exact ⟨g, off, hA, h1, h2, h3, hc 0 (by omega), hc 1 (by omega)⟩
/-- halves of words that came in -/
def HL (l : List Nat) : Prop := ∀ x ∈ l, x < 65536
theorem halves_open {H : Type} {enc : TypeId × Value → H} {P : Program} {W : World} {t e : TypeId} (ht : P.underlying t = some (.slice e)) (he : P.underlying e = some (.int .u16)) (hc : P.cellsOf e = 1) {ad : Option Addr} {len cap : Nat} {d : DataW H} {p : List MemPlace}
    (h : DataW.Trod enc P W 0 (fun _ => true) true t (.slice ad len cap) d p) : ∃ l : List Nat, HL l ∧ KL .u16 W (.slice ad len cap) l := by
  obtain ⟨fuel, hf⟩ := h
  rcases open_ints ht he hc hf with ⟨hcs, _⟩ | ⟨a, len', cap', zs, hcs, _, hl, hm, hz, _, hcell, hwz⟩
  · simp [Value.cells] at hcs
    obtain ⟨rfl, rfl, rfl⟩ := hcs
    exact ⟨[], fun x hx => by simp at hx, none, 0, rfl, fun h => by simp at h⟩
  · simp [Value.cells] at hcs
    obtain ⟨rfl, rfl, rfl⟩ := hcs
    simp only [if_true] at hz
    have hb : ∀ z ∈ zs, 0 ≤ z ∧ z ≤ 65535 := fun z hz => bounds_u16 (hwz z hz)
    have hlen : ((zs.take len).map Int.toNat).length = len := by simp; omega
    refine ⟨(zs.take len).map Int.toNat, fun x hx => ?_, some a, cap, by rw [hlen], fun h0 => ?_⟩
    · obtain ⟨z, hz1, rfl⟩ := List.mem_map.1 hx
      have := hb z (List.mem_of_mem_take hz1)
      omega
    · rw [hlen] at h0 ⊢
      have hc0 := hcell 0 (by omega)
      have hsp : a.spot = none := by
        have := spot_none hc0
        unfold Addr.add at this
        simpa using this
      obtain ⟨g, off, sp⟩ := a
      simp only at hsp
      subst hsp
      refine ⟨g, off, rfl, ?_, by omega, fun i hil => ?_⟩
      · have := World.block_lt_of_cell? _ _ hc0
        simpa [add_plain] using this
      · have := hcell i (by omega)
        rw [add_plain] at this
        rw [this]
        have hzi : i < zs.length := by omega
        have e1 : ((zs.take len).map Int.toNat).getD i 0 = (zs[i]).toNat := by
          rw [List.getD_eq_getElem?_getD, List.getElem?_map, List.getElem?_take, if_pos hil, List.getElem?_eq_getElem hzi]
          rfl
        have e2 : zs.getD i 0 = zs[i] := by rw [List.getD_eq_getElem?_getD, List.getElem?_eq_getElem hzi]; rfl
        rw [e1, e2, Int.toNat_of_nonneg (hb _ (List.getElem_mem hzi)).1]
end Go.Proofs.YtnjifmecaeagaaaDoor
