/-
  Package oid: strings.Split at a full stop, strconv.Itoa, strconv.FormatUint.
-/
import Derived.Test.YtdblioggncnapaaDoorOdS
import Derived.Test.YtdblioggncnapaaDoorOdM
import Derived.Test.YtdblioggncnapaaDoorCommon
import Derived.Shelf.Strings.Split
import Derived.Shelf.Strconv.Itoa3
import Derived.Lib.AppendIntMem
set_option linter.unusedVariables false
set_option linter.unusedSimpArgs false
set_option maxRecDepth 100000
namespace Go.Proofs.YtdblioggncnapaaDoor
open Go.Lib Go.Shelf Go.RowKit
/-- the table of powers of ten stands in memory -/
def Tb (w : World) : Prop := TabIs Tryd.prog w "internal/strconv.uint64pow10" .u64 pow10Tab
theorem Tb.lt {w : World} (h : Tb w) : ita_ren.g 17 < w.heap.size := by
  unfold Tb TabIs World.var? at h
  rw [ita.m17, Option.bind_some] at h
  refine Nat.lt_of_not_le fun hn => ?_
  rw [Array.getElem?_eq_none hn] at h
  simp at h
theorem Tb.below {w w' : World} {B : Nat} (h : Tb w) (hb : Below B w w') (hB : ita_ren.g 17 < B) : Tb w' := by
  unfold Tb TabIs World.var? at *
  rw [ita.m17, Option.bind_some] at h ⊢
  rw [hb.block _ hB]; exact h
theorem Tb.next {w w' : World} (h : Tb w) (hb : Below w.heap.size w w') : Tb w' := h.below hb h.lt
/-- the pieces of a text, as cells -/
def cellsS (L : List (List UInt8)) : Array Value := (L.map fun p => Value.string ⟨p.toArray⟩).toArray
theorem bytes_eta (x : ByteArray) : (⟨x.data.toList.toArray⟩ : ByteArray) = x := by cases x; simp
theorem splitB_cells (s : ByteArray) : (splitB ⟨#[46]⟩ 0 (countB s ⟨#[46]⟩) s).map Value.string = (splitD s.data.toList).map fun p => Value.string ⟨p.toArray⟩ := by
  have h := splitB_data ⟨#[46]⟩ 0 (countB s ⟨#[46]⟩) s
  have e : splitK [46] 0 (countB s ⟨#[46]⟩) s.data.toList = splitD s.data.toList := split_is s.data.toList
  rw [show (⟨#[46]⟩ : ByteArray).data.toList = [46] from rfl, e] at h
  rw [← h, List.map_map]
  refine List.map_congr_left fun x _ => ?_
  show Value.string x = Value.string ⟨x.data.toList.toArray⟩
  rw [bytes_eta]
set_option maxHeartbeats 1000000 in
theorem split_any (s : ByteArray) (w : World) (hs : s.size < 4294967281) :
    Calls Tryd.prog 23 #[.string s, .string ⟨#[46]⟩] w fun e w' => e = .returned (.slice (some ⟨w.heap.size, 0, none⟩) (splitD s.data.toList).length (splitD s.data.toList).length) ∧ w' = w.alloc (.cells (cellsS (splitD s.data.toList)) 9) := by
  have hlen := splitB_all ⟨#[46]⟩ (by decide) 0 _ s rfl
  have hcl := splitB_cells s
  have hn : (splitD s.data.toList).length = countB s ⟨#[46]⟩ + 1 := by have h := congrArg List.length hcl; rw [List.length_map, List.length_map, hlen] at h; exact h.symm
  have hle := countB_le ⟨#[46]⟩ (by decide) s.size s (Nat.le_refl _)
  have c := Any.strings_genSplit_core (P := Tryd.prog) (ρ := spl_ren) { spl with } (by kernel_rfl) s ⟨#[46]⟩ 0 (-1) (countB s ⟨#[46]⟩ + 1) w hs (by decide) (Nat.zero_le _)
    (fun x c hx => (Any.strings_Index_one (P := Tryd.prog) (ρ := spl_ren) { spl with } x 46 _).mono fun e w' ⟨he, hw⟩ => ⟨by rw [he]; show _ = Ending.returned (Value.int .i64 (index x.data.toList [46])); rw [Lib.index_one], hw⟩)
    ((Any.strings_Count_one (P := Tryd.prog) (ρ := spl_ren) { spl with } s 46 w).mono fun e w' ⟨he, hw⟩ => ⟨by rw [he]; show _ = Ending.returned (Value.int .i64 ((count s.data.toList [46] : Nat) : Int)); rw [Lib.count_one]; rfl, hw⟩)
    (by decide) (by decide) (by rw [if_pos (by decide)]; omega)
  rw [Nat.add_sub_cancel, hlen] at c
  have e2 : cellsOf (splitB ⟨#[46]⟩ 0 (countB s ⟨#[46]⟩) s) (countB s ⟨#[46]⟩ + 1) = cellsS (splitD s.data.toList) := by
    rw [← hlen, Lib.cellsOf_full, hcl]; rfl
  rw [e2] at c
  have c2 : Calls Tryd.prog 32 #[.string s, .string ⟨#[46]⟩, .int .i64 0, .int .i64 (-1)] w fun e w' => e = .returned (.slice (some ⟨w.heap.size, 0, none⟩) (countB s ⟨#[46]⟩ + 1) (countB s ⟨#[46]⟩ + 1)) ∧ w' = w.alloc (.cells (cellsS (splitD s.data.toList)) 9) := c
  rw [hn]
  go_enter Tryd.func23, Tryd.ntmps23
  go_wp2_with (go_at_call 32; refine c2.mono ?_; rintro e w' ⟨rfl, hw⟩; rw [hw])
  go_ret
  exact ⟨rfl, rfl⟩
theorem itoa_any (n : Nat) (h1 : n < 9223372036854775808) (w : World) (ht : Tb w) :
    Calls Tryd.prog 26 #[.int .i64 n] w fun e w' => e = .returned (.string ⟨(decDigits n).toArray⟩) ∧ Below w.heap.size w w' :=
  (Any.strconv_Itoa (P := Tryd.prog) (ρ := ita_ren) ita (n : Int) (by omega) (by omega) w ht).mono fun e w' ⟨he, k, os, hw⟩ => ⟨by rw [he, itoa_nonneg], by rw [hw]; exact below_grow _ w (Nat.le_refl _) k os⟩
theorem small_any (i : Nat) (h : i < 100) (w : World) :
    Calls Tryd.prog 39 #[.int .i64 i] w fun e w' => e = .returned (.string ⟨(decDigits i).toArray⟩) ∧ w' = w :=
  Any.internal_strconv_small (P := Tryd.prog) (ρ := ita_ren) { ita with } i h w
theorem numd_any (u : Nat) (h1 : 1 ≤ u) (h2 : u < 18446744073709551616) (w : World) (ht : Tb w) :
    Calls Tryd.prog 40 #[.int .u64 u] w fun e w' => e = .returned (.int .i64 (nDigits u)) ∧ w' = w :=
  Any.internal_strconv_numDigits (P := Tryd.prog) (ρ := ita_ren) { ita with } u h1 h2 w ht
theorem fmt10_any (blk off cap : Nat) (u : Nat) (d : Array UInt8) (w : World) (hH : Sort.Holds (fun (b : UInt8) => Value.int .u8 (b.toNat : Int)) w blk off d) (hu : u < 10 ^ d.size) (hu64 : u < 18446744073709551616) (hsz : d.size < 4611686018427387904) :
    Calls Tryd.prog 41 #[.slice (some ⟨blk, off, none⟩) d.size cap, .int .u64 u] w fun e w' =>
      e = .returned (.tuple #[]) ∧ ∃ (n v' : Nat) (dk : Array UInt8), w' = (Sort.putRow (fun (b : UInt8) => Value.int .u8 (b.toNat : Int)) w blk off dk).drewN n ∧ FmtInv d.size u 0 v' dk :=
  Any.internal_strconv_formatBase10 (P := Tryd.prog) (ρ := ita_ren) { ita with } blk off cap u d w hH hu hu64 hsz
end Go.Proofs.YtdblioggncnapaaDoor
