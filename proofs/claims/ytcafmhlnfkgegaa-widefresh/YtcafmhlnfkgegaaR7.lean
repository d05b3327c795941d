import Derived.Test.YtcafmhlnfkgegaaR6
import Derived.Test.YtcafmhlnfkgegaaB1
namespace Go.Proofs.Ytcafmhlnfkgegaa
open Go.RowKit

theorem own_later {W w1 : World} {base : Nat} {e : TypeId} {size : Nat} {v : Value} {n : Nat} {xs : List Value} (hb : Below W.heap.size W w1) (h : W.ownsRow base e size v n xs) : w1.ownsRow base e size v n xs := by
  refine ⟨h.1, ?_⟩
  rcases h.2 with h | ⟨g, cap, cur, hv, hg, hh, r⟩
  · exact .inl h
  · have hlt : g < W.heap.size := by
      rcases Nat.lt_or_ge g W.heap.size with h1 | h1
      · exact h1
      · rw [Array.getElem?_eq_none h1] at hh; cases hh
    exact .inr ⟨g, cap, cur, hv, hg, by rw [hb.block g hlt]; exact hh, r⟩
theorem own_block {w : World} {base : Nat} {e : TypeId} {size : Nat} {v : Value} {n : Nat} {xs : List Value} (h : w.ownsRow base e size v n xs) : ∀ k, v.ownBlock = some k → base ≤ k := by
  intro k hk
  rcases h.2 with ⟨rfl, _⟩ | ⟨g, cap, cur, rfl, hg, _⟩
  · cases hk
  · simp [Value.ownBlock] at hk; omega
theorem below_grown' {w w1 w2 : World} {row : Option Nat} (h : Below w.heap.size w w1) (hgr : w1.grownBy w2 row) (hg : ∀ k, row = some k → w.heap.size ≤ k) : Below w.heap.size w w2 :=
  h.grown hgr h.size hg
theorem Box.grown' {w1 w2 : World} {k : Nat} {row : Option Nat} {a b : Int} (h : Box w1 k a b) (hgr : w1.grownBy w2 row) (hk : some k ≠ row) : Box w2 k a b := by
  have hlt := World.block_lt_of_cell? _ _ h.1
  have hb := hgr.block k hlt hk
  exact ⟨by rw [World.cell?_of_block (w := w1) hb]; exact h.1, by rw [World.cell?_of_block (w := w1) hb]; exact h.2⟩
theorem vbit (N i m : Nat) (hm : m < 8) : 2 * (N / 2 ^ (8 * i + m + 1) % 2 ^ (7 - m)) + bitN N (8 * i + m) = N / 2 ^ (8 * i + m) % 2 ^ (8 - m) := by
  unfold bitN
  rw [Nat.pow_succ, ← Nat.div_div_eq_div_mul]
  generalize N / 2 ^ (8 * i + m) = y
  have e : 8 - m = (7 - m) + 1 := by omega
  rw [e, Nat.pow_succ, Nat.mul_comm (2 ^ (7 - m)) 2, Nat.mod_mul]
  omega
theorem vlt (N i m : Nat) (hm : m < 8) : N / 2 ^ (8 * i + m + 1) % 2 ^ (7 - m) < 128 := by
  have h1 : N / 2 ^ (8 * i + m + 1) % 2 ^ (7 - m) < 2 ^ (7 - m) := Nat.mod_lt _ (Nat.two_pow_pos _)
  have h2 : (2 : Nat) ^ (7 - m) ≤ 2 ^ 7 := Nat.pow_le_pow_right (by omega) (by omega)
  omega
theorem vend (N i : Nat) : N / 2 ^ (8 * i) % 2 ^ 8 = byteN N i := by
  unfold byteN
  rw [pow_two8]
def VRel (w : World) (a b : Int) (N i : Nat) (out v t : Value) (w' : World) : Prop :=
  ((t = .int .i64 (-1) ∧ v = .int .i64 (byteN N i : Int)) ∨ ∃ m : Nat, m < 8 ∧ t = .int .i64 (m : Int) ∧ v = .int .i64 ((N / 2 ^ (8 * i + m + 1) % 2 ^ (7 - m) : Nat) : Int)) ∧
  w'.ownsRow (w.heap.size + 1) 5 1 out i (u8s ((bytesOf N).take i)) ∧ Below w.heap.size w w' ∧ Box w' w.heap.size a b
def BRel (w : World) (a b : Int) (N : Nat) (out t : Value) (w' : World) : Prop :=
  ∃ i : Nat, i ≤ 16 ∧ t = .int .i64 (i : Int) ∧ w'.ownsRow (w.heap.size + 1) 5 1 out i (u8s ((bytesOf N).take i)) ∧ Below w.heap.size w w' ∧ Box w' w.heap.size a b
theorem take_bytes (N i : Nat) (h : i < 16) : u8s ((bytesOf N).take (i + 1)) = u8s ((bytesOf N).take i) ++ [.int .u8 (byteN N i : Int)] := by
  have hl : i < (bytesOf N).length := by rw [bytesOf_length]; exact h
  rw [List.take_succ_eq_append_getElem hl]
  have := bytesOf_get N i h
  rw [List.getElem?_eq_getElem hl] at this
  unfold u8s
  rw [List.map_append, Option.some.inj this]
  rfl

set_option maxRecDepth 100000 in
set_option maxHeartbeats 1000000 in
theorem rBytes_any (a b : Int) (N : Nat) (w : World) (h : IsV a b N) :
    Calls Try.prog 24 #[.agg #[.int .u64 a, .int .u64 b]] w fun e w' => ∃ g cap, e = .returned (.slice (some ⟨g, 0, none⟩) 16 cap) ∧ (∀ i, i < 16 → w'.cell? ⟨g, i, none⟩ = some (.int .u8 (byteN N i : Int))) ∧ Below w.heap.size w w' := by
  obtain ⟨ti, hi, hz0, hz1, hz2⟩ := info_parts info5
  have HT : Hid (Try.prog.info? 5 = some ti ∧ ti.zero = some (.int .u8 0) ∧ ti.size = 1 ∧ ti.bytes = 1) := ⟨hi, hz0, hz1, hz2⟩
  clear hi hz0 hz1 hz2
  go_enter Try.func24, Try.ntmps24
  go_wp2
  go_loopw [3, 4] (BRel w a b N) (fun _ t _ => 16 - (intOf t).toNat)
  case atStart => exact ⟨0, by omega, rfl, ⟨rfl, .inl ⟨rfl, rfl⟩⟩, below1 _ _, Box.new _ _ _⟩
  case round =>
    obtain ⟨i, hi, rfl, hown, hB, X⟩ := hrel
    by_cases hlt : i < 16
    · have hdi : decide ((i : Int) < 16) = true := by simp; omega
      go_wp2
      go_loopw [5, 6] (VRel w a b N i u3) (fun _ t _ => (intOf t + 1).toNat)
      case atStart =>
        refine ⟨.inr ⟨7, by omega, rfl, ?_⟩, hown, hB, X⟩
        show Value.int IntKind.i64 0 = Value.int IntKind.i64 ((N / 2 ^ (8 * i + 7 + 1) % 2 ^ (7 - 7) : Nat) : Int)
        rw [Nat.sub_self, Nat.pow_zero, Nat.mod_one]; rfl
      case round =>
        clear hown hB X
        obtain ⟨hcase, hown, hB, X⟩ := hrel
        rcases hcase with ⟨rfl, rfl⟩ | ⟨m, hm, rfl, rfl⟩
        · have hbv := byteN_lt N i
          have HO : Hid (wr.ownsRow (w.heap.size + 1) 5 1 u3 i (u8s ((bytesOf N).take i))) := hown
          clear hown
          go_wp2_with (first | (at_builtin; refine wpList_append_own _ rfl _ _ 32 rfl (w.heap.size + 1) 5 ti (.int .u8 0) 1 1 Try.underlying32 HT.out.1 HT.out.2.1 HT.out.2.2.1 HT.out.2.2.2 rfl (by decide) _ _ _ rfl (HO.out.alloc _) ⟨wr.heap.size, 0, none⟩ 1 1 [.int .u8 (byteN N i : Int)] rfl rfl ?c1 ?c2 ?c3 ?c4 ?c5 ?_))
          case c1 => exact cell_one_new _ _ _
          case c2 => intro u hu; simp at hu; subst hu; rfl
          case c3 => unfold maxLen; omega
          case c4 => omega
          case c5 => have := hB.size; simp; omega
          intro v' w2 hown2 hgr _
          rw [← take_bytes N i hlt] at hown2
          have HO2 : Hid _ := hown2
          clear hown2
          have hB2 : Below w.heap.size w w2 := below_grown' (Below.alloc hB hB.size (Obj.cells #[Value.int IntKind.u8 (byteN N i : Int)] 5)) hgr (fun k hk => by have := own_block HO.out k hk; omega)
          have X2 : Box w2 w.heap.size a b := (X.alloc (Obj.cells #[Value.int IntKind.u8 (byteN N i : Int)] 5)).grown' hgr (fun e => by have := own_block HO.out _ e.symm; omega)
          clear hgr
          go_wp2
          go_roundw
          case rel => exact ⟨i + 1, by omega, by go_num, HO2.out, hB2, X2⟩
          case measure => simp [intOf]; omega
        · have x0 := X.1
          have x1 := X.2
          have hvl := vlt N i m hm
          have hbl := bitN_lt N (8 * i + m)
          have e0 : ((8 : Int) * (i : Int) + (m : Int)).toNat = 8 * i + m := by omega
          have HV : Hid (2 * (N / 2 ^ (8 * i + m + 1) % 2 ^ (7 - m)) + bitN N (8 * i + m) = N / 2 ^ (8 * i + m) % 2 ^ (8 - m)) := vbit N i m hm
          generalize N / 2 ^ (8 * i + m + 1) % 2 ^ (7 - m) = V at *
          cases m with
          | zero =>
            have e1 : ((8 : Int) * (i : Int)).toNat = 8 * i := by omega
            have hbl0 : bitN N (8 * i) < 2 := bitN_lt N _
            go_wp2_with (first | (go_at_call 34; refine (bit_int _ _ _ _ _ h (by omega) (by omega)).mono ?_; rintro e w1 ⟨rfl, hb⟩; rw [e1]))
            go_roundw
            case rel =>
              refine ⟨.inl ⟨rfl, ?_⟩, own_later hb hown, below_call hB hb, X.later hb⟩
              have := HV.out
              rw [Nat.add_zero, Nat.sub_zero, vend] at this
              exact val_eq (by rw [← this]; omega)
            case measure => simp [intOf]
          | succ j =>
            have e1 : ((8 : Int) * (i : Int) + ((j : Int) + 1)).toNat = 8 * i + (j + 1) := by omega
            go_wp2_with (first | (go_at_call 34; refine (bit_int _ _ _ _ _ h (by omega) (by omega)).mono ?_; rintro e w1 ⟨rfl, hb⟩; rw [e1]))
            go_roundw
            case rel =>
              refine ⟨.inr ⟨j, by omega, by go_num, ?_⟩, own_later hb hown, below_call hB hb, X.later hb⟩
              have := HV.out
              rw [show 8 - (j + 1) = 7 - j by omega] at this
              exact val_eq (by rw [Nat.add_assoc (8 * i) j 1, ← this]; omega)
            case measure => simp [intOf]; omega
    · obtain rfl : i = 16 := by omega
      have hfull : (bytesOf N).take 16 = bytesOf N := List.take_of_length_le (by rw [bytesOf_length]; exact Nat.le_refl _)
      rw [hfull] at hown
      obtain ⟨g, cap, rfl⟩ : ∃ g cap, u3 = .slice (some ⟨g, 0, none⟩) 16 cap := by
        rcases hown.2 with ⟨_, h⟩ | ⟨g, cap, _, h, _⟩
        · omega
        · exact ⟨g, cap, h⟩
      have HO : Hid (wr.ownsRow (w.heap.size + 1) 5 1 (.slice (some ⟨g, 0, none⟩) 16 cap) 16 (u8s (bytesOf N))) := hown
      clear hown hfull
      go_wp2
      go_ret
      refine ⟨g, cap, rfl, fun i hi => ?_, hB⟩
      have e : (u8s (bytesOf N))[i]? = some (.int .u8 (byteN N i : Int)) := by
        unfold u8s
        rw [List.getElem?_map, bytesOf_get _ _ hi]; rfl
      have := HO.out.cells (g := g) rfl i _ e
      rw [addr_add0] at this
      exact this
end Go.Proofs.Ytcafmhlnfkgegaa
