import Derived.Test.YthfmmfphnimlnaaHA
import Derived.Maps.AppendAt
import Derived.Laws.AppendOwnNone
namespace Go.Proofs.Ythfmmfphnimlnaa.W
open Go.RowKit
theorem pow_two8 (k : Nat) : (256 : Nat) ^ k = 2 ^ (8 * k) := by rw [Nat.pow_mul]
theorem val_eq {a b : Int} {k : IntKind} (h : a = b) : Value.int k a = Value.int k b := by rw [h]
end Go.Proofs.Ythfmmfphnimlnaa.W
namespace Go.Proofs.Ythfmmfphnimlnaa.W
open Go.RowKit
def bitN (N i : Nat) : Nat := N / 2 ^ i % 2
theorem bitN_lt (N i : Nat) : bitN N i < 2 := Nat.mod_lt _ (by decide)
theorem bit_lo {a b N : Nat} (h : IsW a b N) {i : Nat} (hi : i < 64) : b / 2 ^ i % 2 = bitN N i := by
  unfold bitN
  rw [h.hn]
  obtain ⟨j, hj⟩ : ∃ j, B64 = 2 ^ i * (2 * 2 ^ j) := ⟨64 - i - 1, by
    have : (2 : Nat) * 2 ^ (64 - i - 1) = 2 ^ (64 - i - 1 + 1) := by rw [Nat.pow_succ, Nat.mul_comm]
    rw [this, ← Nat.pow_add, B64_eq]; congr 1; omega⟩
  rw [hj, Nat.add_comm, Nat.mul_comm a, Nat.mul_assoc, Nat.add_mul_div_left _ _ (Nat.two_pow_pos i), Nat.mul_assoc, Nat.add_mul_mod_self_left]
theorem word_div {a b N : Nat} (h : IsW a b N) : N / B64 = a := by
  rw [h.hn, Nat.add_comm, Nat.add_mul_div_right _ _ (by decide), Nat.div_eq_of_lt h.hb, Nat.zero_add]
theorem bit_hi {a b N : Nat} (h : IsW a b N) {i : Nat} : a / 2 ^ i % 2 = bitN N (64 + i) := by
  unfold bitN
  rw [Nat.pow_add, ← B64_eq, ← Nat.div_div_eq_div_mul, word_div h]
theorem or_bit {b i : Nat} (h : b / 2 ^ i % 2 = 0) : b ||| 2 ^ i = b + 2 ^ i := by
  have hp := Nat.two_pow_pos i
  have e1 : b = 2 ^ (i + 1) * (b / 2 ^ (i + 1)) + b % 2 ^ i := by
    have h1 := Nat.div_add_mod b (2 ^ (i + 1))
    have h2 : b % 2 ^ (i + 1) = b % 2 ^ i + 2 ^ i * (b / 2 ^ i % 2) := by rw [Nat.pow_succ, Nat.mod_mul]
    rw [h2, h, Nat.mul_zero, Nat.add_zero] at h1
    exact h1.symm
  have hr : b % 2 ^ i < 2 ^ i := Nat.mod_lt _ hp
  generalize b / 2 ^ (i + 1) = q at e1
  generalize b % 2 ^ i = r at e1 hr
  have h3 : 2 ^ i + r < 2 ^ (i + 1) := by rw [Nat.pow_succ]; omega
  have h4 : r ||| 2 ^ i = 2 ^ i + r := by
    have := Nat.two_pow_add_eq_or_of_lt hr 1
    rw [Nat.mul_one] at this
    rw [this, Nat.or_comm]
  have h5 := Nat.two_pow_add_eq_or_of_lt (Nat.lt_of_lt_of_le hr (Nat.le_of_lt (by rw [Nat.pow_succ]; omega))) q (i := i + 1)
  have h6 := Nat.two_pow_add_eq_or_of_lt h3 q
  rw [e1, h5, Nat.or_assoc, h4, ← h6, ← h5]
  omega
theorem pow_mod {n : Nat} (h : n < B64) : ((n : Nat) : Int) % 18446744073709551616 = ((n : Nat) : Int) := by
  unfold B64 at h
  omega
theorem bit_val (b i : Nat) : wrap64 (((b : Int) / 2 ^ i).tmod 2) = ((b / 2 ^ i % 2 : Nat) : Int) := by
  have e1 : ((2 : Int) ^ i) = ((2 ^ i : Nat) : Int) := by simp
  rw [e1, ← Int.natCast_ediv]
  generalize b / 2 ^ i = q
  have e2 : ((q : Int)).tmod 2 = ((q % 2 : Nat) : Int) := by
    rw [Int.tmod_eq_emod_of_nonneg (Int.natCast_nonneg _)]; omega
  rw [e2]
  unfold wrap64
  omega
theorem set_lo {a b N : Nat} (h : IsW a b N) {i : Nat} (hi : i < 64) (hz : bitN N i = 0) : IsW a (b ||| 2 ^ i) (N + 2 ^ i) ∧ bits BinOp.or IntKind.u64 (b : Int) (IntKind.u64.wrap (2 ^ i)) = ((b ||| 2 ^ i : Nat) : Int) := by
  have hz' : b / 2 ^ i % 2 = 0 := by rw [bit_lo h hi]; exact hz
  have hlt : (2 : Nat) ^ i < B64 := by rw [B64_eq]; exact Nat.pow_lt_pow_right (by omega) hi
  have hor : b ||| 2 ^ i < B64 := by
    rw [B64_eq] at *
    exact Nat.or_lt_two_pow (by rw [← B64_eq]; exact h.hb) hlt
  refine ⟨⟨h.ha, hor, ?_⟩, ?_⟩
  · rw [or_bit hz', h.hn]; omega
  · have e : IntKind.u64.wrap (2 ^ i) = ((2 ^ i : Nat) : Int) := by
      have e1 : ((2 : Int) ^ i) = ((2 ^ i : Nat) : Int) := by simp
      rw [e1, IntKind.wrap_u64]
      exact pow_mod hlt
    rw [e, u64_or_nat _ _ h.hb hlt]
theorem set_hi {a b N : Nat} (h : IsW a b N) {i : Nat} (hi : i < 64) (hz : bitN N (64 + i) = 0) : IsW (a ||| 2 ^ i) b (N + 2 ^ (64 + i)) ∧ bits BinOp.or IntKind.u64 (a : Int) (IntKind.u64.wrap (2 ^ i)) = ((a ||| 2 ^ i : Nat) : Int) := by
  have hz' : a / 2 ^ i % 2 = 0 := by rw [bit_hi h]; exact hz
  have hlt : (2 : Nat) ^ i < B64 := by rw [B64_eq]; exact Nat.pow_lt_pow_right (by omega) hi
  have hor : a ||| 2 ^ i < B64 := by
    rw [B64_eq] at *
    exact Nat.or_lt_two_pow (by rw [← B64_eq]; exact h.ha) hlt
  refine ⟨⟨hor, h.hb, ?_⟩, ?_⟩
  · rw [or_bit hz', h.hn, Nat.pow_add, ← B64_eq, Nat.add_mul, Nat.mul_comm (2 ^ i)]; omega
  · have e : IntKind.u64.wrap (2 ^ i) = ((2 ^ i : Nat) : Int) := by
      have e1 : ((2 : Int) ^ i) = ((2 ^ i : Nat) : Int) := by simp
      rw [e1, IntKind.wrap_u64]
      exact pow_mod hlt
    rw [e, u64_or_nat _ _ h.ha hlt]
set_option maxHeartbeats 400000 in
theorem bit_any (a b : Int) (N i : Nat) (w : World) (h : IsV a b N) (hi : i < 128) :
    Calls Try.prog 64 #[.agg #[.int .u64 a, .int .u64 b], .int .i64 (i : Int)] w fun e w' => e = .returned (.int .i64 (bitN N i : Int)) ∧ Below w.heap.size w w' := by
  obtain ⟨a, b, rfl, rfl, h⟩ := h
  by_cases h1 : i < 64
  · have hb := bit_lo h h1
    have HV : Hid (wrap64 (((b : Int) / 2 ^ i).tmod 2) = (bitN N i : Int)) := by unfold Hid; rw [bit_val, hb]
    clear hb h
    go_enter Try.func64, Try.ntmps64
    go_wp2
    go_ret
    exact ⟨ret_int HV.out, below1 _ _⟩
  · obtain ⟨j, rfl⟩ : ∃ j, i = 64 + j := ⟨i - 64, by omega⟩
    have hb := bit_hi h (i := j)
    have HV : Hid (wrap64 (((a : Int) / 2 ^ j).tmod 2) = (bitN N (64 + j) : Int)) := by unfold Hid; rw [bit_val, hb]
    have h2 : j < 64 := by omega
    clear hb h h1 hi
    have hw : ((64 + j : Nat) : Int) - 64 = (j : Int) := by omega
    have h3 : ¬ ((64 + j : Nat) : Int) < 64 := by omega
    go_enter Try.func64, Try.ntmps64
    go_wp2
    go_ret
    exact ⟨ret_int HV.out, below1 _ _⟩
set_option maxHeartbeats 400000 in
theorem set_any (a b : Int) (N i : Nat) (w : World) (h : IsV a b N) (hi : i < 128) (hz : bitN N i = 0) :
    Calls Try.prog 80 #[.agg #[.int .u64 a, .int .u64 b], .int .i64 (i : Int)] w fun e w' => ∃ c d : Int, e = .returned (.agg #[.int .u64 c, .int .u64 d]) ∧ IsV c d (N + 2 ^ i) ∧ Below w.heap.size w w' := by
  obtain ⟨a, b, rfl, rfl, h⟩ := h
  by_cases h1 : i < 64
  · obtain ⟨s1, s2⟩ := set_lo h h1 hz
    have s3 := IsV.of s1
    rw [← s2] at s3
    clear s1 s2 h hz
    go_enter Try.func80, Try.ntmps80
    go_wp2
    exact bodyPost_ret (v := .agg #[.int .u64 (a : Int), .int .u64 (bits BinOp.or IntKind.u64 (b : Int) (IntKind.u64.wrap (2 ^ i)))]) (by simp [results, Try.results80, go_sem]) rfl ⟨_, _, rfl, s3, below2 _ _ _⟩
  · obtain ⟨j, rfl⟩ : ∃ j, i = 64 + j := ⟨i - 64, by omega⟩
    have h2 : j < 64 := by omega
    obtain ⟨s1, s2⟩ := set_hi h h2 hz
    have s3 := IsV.of s1
    rw [← s2] at s3
    clear s1 s2 h hz h1 hi
    have hw : ((64 + j : Nat) : Int) - 64 = (j : Int) := by omega
    have h3 : ¬ ((64 + j : Nat) : Int) < 64 := by omega
    go_enter Try.func80, Try.ntmps80
    go_wp2
    exact bodyPost_ret (v := .agg #[.int .u64 (bits BinOp.or IntKind.u64 (a : Int) (IntKind.u64.wrap (2 ^ j))), .int .u64 (b : Int)]) (by simp [results, Try.results80, go_sem]) rfl ⟨_, _, rfl, s3, below2 _ _ _⟩
end Go.Proofs.Ythfmmfphnimlnaa.W
namespace Go.Proofs.Ythfmmfphnimlnaa.W
open Go.RowKit
theorem bit_int (a b : Int) (N : Nat) (x : Int) (w : World) (h : IsV a b N) (h0 : 0 ≤ x) (h1 : x < 128) :
    Calls Try.prog 64 #[.agg #[.int .u64 a, .int .u64 b], .int .i64 x] w fun e w' => e = .returned (.int .i64 (bitN N x.toNat : Int)) ∧ Below w.heap.size w w' := by
  obtain ⟨n, rfl⟩ : ∃ n : Nat, x = n := ⟨x.toNat, by omega⟩
  exact bit_any a b N n w h (by omega)
theorem set_int (a b : Int) (N : Nat) (x : Int) (w : World) (h : IsV a b N) (h0 : 0 ≤ x) (h1 : x < 128) (hz : bitN N x.toNat = 0) :
    Calls Try.prog 80 #[.agg #[.int .u64 a, .int .u64 b], .int .i64 x] w fun e w' => ∃ c d : Int, e = .returned (.agg #[.int .u64 c, .int .u64 d]) ∧ IsV c d (N + 2 ^ x.toNat) ∧ Below w.heap.size w w' := by
  obtain ⟨n, rfl⟩ : ∃ n : Nat, x = n := ⟨x.toNat, by omega⟩
  exact set_any a b N n w h (by omega) hz
end Go.Proofs.Ythfmmfphnimlnaa.W
namespace Go.Proofs.Ythfmmfphnimlnaa.W
open Go.RowKit
theorem _root_.Go.Proofs.Ythfmmfphnimlnaa.Box.grown {w1 w2 : World} {k g : Nat} {a b : Int} (h : Box w1 k a b) (hgr : w1.grownBy w2 (some g)) (hk : k ≠ g) : Box w2 k a b := by
  have hlt := World.block_lt_of_cell? _ _ h.1
  have hb := hgr.block k hlt (by simpa using hk)
  exact ⟨by rw [World.cell?_of_block (w := w1) hb]; exact h.1, by rw [World.cell?_of_block (w := w1) hb]; exact h.2⟩
end Go.Proofs.Ythfmmfphnimlnaa.W
namespace Go.Proofs.Ythfmmfphnimlnaa.W
open Go.RowKit
theorem below_grown' {w w1 w2 : World} {row : Option Nat} (h : Below w.heap.size w w1) (hgr : w1.grownBy w2 row) (hg : ∀ k, row = some k → w.heap.size ≤ k) : Below w.heap.size w w2 :=
  h.grown hgr h.size hg
theorem _root_.Go.Proofs.Ythfmmfphnimlnaa.Box.grown' {w1 w2 : World} {k : Nat} {row : Option Nat} {a b : Int} (h : Box w1 k a b) (hgr : w1.grownBy w2 row) (hk : some k ≠ row) : Box w2 k a b := by
  have hlt := World.block_lt_of_cell? _ _ h.1
  have hb := hgr.block k hlt hk
  exact ⟨by rw [World.cell?_of_block (w := w1) hb]; exact h.1, by rw [World.cell?_of_block (w := w1) hb]; exact h.2⟩
theorem vbit (N i m : Nat) (hm : m < 8) : 2 * (N / 2 ^ (8 * i + m + 1) % 2 ^ (7 - m)) + bitN N (8 * i + m) = N / 2 ^ (8 * i + m) % 2 ^ (8 - m) := by
  unfold bitN
  rw [Nat.pow_succ, ← Nat.div_div_eq_div_mul]
  generalize N / 2 ^ (8 * i + m) = y
  have e : 8 - m = (7 - m) + 1 := by omega
  rw [e, Nat.pow_succ, Nat.mul_comm (2 ^ (7 - m)) 2, Nat.mod_mul]
  omega
theorem vlt (N i m : Nat) (hm : m < 8) : N / 2 ^ (8 * i + m + 1) % 2 ^ (7 - m) < 128 := by
  have h1 : N / 2 ^ (8 * i + m + 1) % 2 ^ (7 - m) < 2 ^ (7 - m) := Nat.mod_lt _ (Nat.two_pow_pos _)
  have h2 : (2 : Nat) ^ (7 - m) ≤ 2 ^ 7 := Nat.pow_le_pow_right (by omega) (by omega)
  omega
theorem vend (N i : Nat) : N / 2 ^ (8 * i) % 2 ^ 8 = byteN N i := by
  unfold byteN
  rw [pow_two8]
def VRel (w : World) (a b : Int) (N i : Nat) (out v t : Value) (w' : World) : Prop :=
  ((t = .int .i64 (-1) ∧ v = .int .i64 (byteN N i : Int)) ∨ ∃ m : Nat, m < 8 ∧ t = .int .i64 (m : Int) ∧ v = .int .i64 ((N / 2 ^ (8 * i + m + 1) % 2 ^ (7 - m) : Nat) : Int)) ∧
  w'.ownsRow (w.heap.size + 1) 5 1 out i (u8s ((bytesOf N).take i)) ∧ Below w.heap.size w w' ∧ Box w' w.heap.size a b
def BRel (w : World) (a b : Int) (N : Nat) (out t : Value) (w' : World) : Prop :=
  ∃ i : Nat, i ≤ 16 ∧ t = .int .i64 (i : Int) ∧ w'.ownsRow (w.heap.size + 1) 5 1 out i (u8s ((bytesOf N).take i)) ∧ Below w.heap.size w w' ∧ Box w' w.heap.size a b
theorem take_bytes (N i : Nat) (h : i < 16) : u8s ((bytesOf N).take (i + 1)) = u8s ((bytesOf N).take i) ++ [.int .u8 (byteN N i : Int)] := by
  have hl : i < (bytesOf N).length := by rw [bytesOf_length]; exact h
  rw [List.take_succ_eq_append_getElem hl]
  have := bytesOf_get N i h
  rw [List.getElem?_eq_getElem hl] at this
  unfold u8s
  rw [List.map_append, Option.some.inj this]
  rfl
set_option maxRecDepth 100000 in
set_option maxHeartbeats 1000000 in
theorem rBytes_any (a b : Int) (N : Nat) (w : World) (h : IsV a b N) :
    Calls Try.prog 65 #[.agg #[.int .u64 a, .int .u64 b]] w fun e w' => ∃ g cap, e = .returned (.slice (some ⟨g, 0, none⟩) 16 cap) ∧ w'.ownsRow (w.heap.size + 1) 5 1 (.slice (some ⟨g, 0, none⟩) 16 cap) 16 (u8s (bytesOf N)) ∧ Below w.heap.size w w' := by
  obtain ⟨ti, hi, hz0, hz1, hz2⟩ := info_parts info5
  have HT : Hid (Try.prog.info? 5 = some ti ∧ ti.zero = some (.int .u8 0) ∧ ti.size = 1 ∧ ti.bytes = 1) := ⟨hi, hz0, hz1, hz2⟩
  clear hi hz0 hz1 hz2
  go_enter Try.func65, Try.ntmps65
  go_wp2
  go_loopw [3, 4] (BRel w a b N) (fun _ t _ => 16 - (intOf t).toNat)
  case atStart => exact ⟨0, by omega, rfl, ⟨rfl, .inl ⟨rfl, rfl⟩⟩, below1 _ _, Box.new _ _ _⟩
  case round =>
    obtain ⟨i, hi, rfl, hown, hB, X⟩ := hrel
    by_cases hlt : i < 16
    · have hdi : decide ((i : Int) < 16) = true := by simp; omega
      go_wp2
      go_loopw [5, 6] (VRel w a b N i u3) (fun _ t _ => (intOf t + 1).toNat)
      case atStart =>
        refine ⟨.inr ⟨7, by omega, rfl, ?_⟩, hown, hB, X⟩
        show Value.int IntKind.i64 0 = Value.int IntKind.i64 ((N / 2 ^ (8 * i + 7 + 1) % 2 ^ (7 - 7) : Nat) : Int)
        rw [Nat.sub_self, Nat.pow_zero, Nat.mod_one]; rfl
      case round =>
        clear hown hB X
        obtain ⟨hcase, hown, hB, X⟩ := hrel
        rcases hcase with ⟨rfl, rfl⟩ | ⟨m, hm, rfl, rfl⟩
        · have hbv := byteN_lt N i
          have HO : Hid (wr.ownsRow (w.heap.size + 1) 5 1 u3 i (u8s ((bytesOf N).take i))) := hown
          clear hown
          go_wp2_with (first | (at_builtin; refine wpList_append_own _ rfl _ _ 30 rfl (w.heap.size + 1) 5 ti (.int .u8 0) 1 1 Try.underlying30 HT.out.1 HT.out.2.1 HT.out.2.2.1 HT.out.2.2.2 rfl (by decide) _ _ _ rfl (HO.out.alloc _) ⟨wr.heap.size, 0, none⟩ 1 1 [.int .u8 (byteN N i : Int)] rfl rfl ?c1 ?c2 ?c3 ?c4 ?c5 ?_))
          case c1 => exact cell_one_new _ _ _
          case c2 => intro u hu; simp at hu; subst hu; rfl
          case c3 => unfold maxLen; omega
          case c4 => omega
          case c5 => have := hB.size; simp; omega
          intro v' w2 hown2 hgr _
          rw [← take_bytes N i hlt] at hown2
          have HO2 : Hid _ := hown2
          clear hown2
          have hB2 : Below w.heap.size w w2 := below_grown' (Below.alloc hB hB.size (Obj.cells #[Value.int IntKind.u8 (byteN N i : Int)] 5)) hgr (fun k hk => by have := own_block HO.out k hk; omega)
          have X2 : Box w2 w.heap.size a b := (X.later (below1 _ (Obj.cells #[Value.int IntKind.u8 (byteN N i : Int)] 5))).grown' hgr (fun e => by have := own_block HO.out _ e.symm; omega)
          clear hgr
          go_wp2
          go_roundw
          case rel => exact ⟨i + 1, by omega, by go_num, HO2.out, hB2, X2⟩
          case measure => simp [intOf]; omega
        · have x0 := X.1
          have x1 := X.2
          have hvl := vlt N i m hm
          have hbl := bitN_lt N (8 * i + m)
          have e0 : ((8 : Int) * (i : Int) + (m : Int)).toNat = 8 * i + m := by omega
          have HV : Hid (2 * (N / 2 ^ (8 * i + m + 1) % 2 ^ (7 - m)) + bitN N (8 * i + m) = N / 2 ^ (8 * i + m) % 2 ^ (8 - m)) := vbit N i m hm
          generalize N / 2 ^ (8 * i + m + 1) % 2 ^ (7 - m) = V at *
          cases m with
          | zero =>
            have e1 : ((8 : Int) * (i : Int)).toNat = 8 * i := by omega
            have hbl0 : bitN N (8 * i) < 2 := bitN_lt N _
            go_wp2_with (first | (go_at_call 64; refine (bit_int _ _ _ _ _ h (by omega) (by omega)).mono ?_; rintro e w1 ⟨rfl, hb⟩; rw [e1]))
            go_roundw
            case rel =>
              refine ⟨.inl ⟨rfl, ?_⟩, own_later hb hown, below_call hB hb, X.later hb⟩
              have := HV.out
              rw [Nat.add_zero, Nat.sub_zero, vend] at this
              exact val_eq (by rw [← this]; omega)
            case measure => simp [intOf]
          | succ j =>
            have e1 : ((8 : Int) * (i : Int) + ((j : Int) + 1)).toNat = 8 * i + (j + 1) := by omega
            go_wp2_with (first | (go_at_call 64; refine (bit_int _ _ _ _ _ h (by omega) (by omega)).mono ?_; rintro e w1 ⟨rfl, hb⟩; rw [e1]))
            go_roundw
            case rel =>
              refine ⟨.inr ⟨j, by omega, by go_num, ?_⟩, own_later hb hown, below_call hB hb, X.later hb⟩
              have := HV.out
              rw [show 8 - (j + 1) = 7 - j by omega] at this
              exact val_eq (by rw [Nat.add_assoc (8 * i) j 1, ← this]; omega)
            case measure => simp [intOf]; omega
    · obtain rfl : i = 16 := by omega
      have hfull : (bytesOf N).take 16 = bytesOf N := List.take_of_length_le (by rw [bytesOf_length]; exact Nat.le_refl _)
      rw [hfull] at hown
      obtain ⟨g, cap, rfl⟩ : ∃ g cap, u3 = .slice (some ⟨g, 0, none⟩) 16 cap := by
        rcases hown.2 with ⟨_, h⟩ | ⟨g, cap, _, h, _⟩
        · omega
        · exact ⟨g, cap, h⟩
      have HO : Hid (wr.ownsRow (w.heap.size + 1) 5 1 (.slice (some ⟨g, 0, none⟩) 16 cap) 16 (u8s (bytesOf N))) := hown
      clear hown hfull
      go_wp2
      go_ret
      exact ⟨g, cap, rfl, HO.out, hB⟩
end Go.Proofs.Ythfmmfphnimlnaa.W
