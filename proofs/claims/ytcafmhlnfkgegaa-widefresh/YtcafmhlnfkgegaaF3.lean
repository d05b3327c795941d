import Derived.Test.YtcafmhlnfkgegaaF2
import Derived.Test.YtcafmhlnfkgegaaR8
namespace Go.Proofs.Ytcafmhlnfkgegaa
open Go.RowKit

def L2o (W1 : World) (long t : Value) (w' : World) : Prop := ∃ (k : Nat) (ls : List Value), k ≤ 3 ∧ t = .int .i64 (k : Int) ∧ w'.ownsRow W1.heap.size 32 1 long k ls ∧
  (∀ j, j < k → ∃ v, ls[j]? = some v ∧ w'.ownsRow W1.heap.size 5 1 v 56 (List.replicate 56 (markV j))) ∧ Below W1.heap.size W1 w'
def L2i (Wk : World) (G : Nat → Nat) (k : Nat) (l t : Value) (w' : World) : Prop := ∃ i : Nat, i ≤ 40 ∧ t = .int .i64 (i : Int) ∧
  ((i = 0 ∧ l = .slice (some ⟨G k, 0, none⟩) 16 16) ∨ (0 < i ∧ w'.ownsRow Wk.heap.size 5 1 l (16 + i) (List.replicate (16 + i) (markV k)))) ∧ Below Wk.heap.size Wk w'

set_option maxRecDepth 100000 in
set_option maxHeartbeats 1000000 in
theorem m_walk (w : World) (B : Nat) (G : Nat → Nat) (h3 : Three w B G) :
    Calls Try.prog 16 #[.slice (some ⟨B, 0, none⟩) 3 3] w fun e w' => e = .returned (.bool true) ∧ Stays w w' G := by
  have H3 : Hid (Mk w w B G 0 0) := ⟨h3, ⟨rfl, rfl, rfl, Nat.le_refl _, fun _ _ _ => rfl⟩, fun j _ t _ hc => by omega⟩
  clear h3
  go_enter Try.func16, Try.ntmps16
  go_wp2
  go_loopw [3] (L1o w B G) (fun t _ => 3 - (intOf t).toNat)
  case atStart => exact ⟨0, by omega, rfl, H3.out⟩
  case round =>
    clear H3
    obtain ⟨k, hk, rfl, hM⟩ := hrel
    by_cases hlt : k < 3
    · have hdk : decide ((k : Int) < 3) = true := by simp; omega
      have HM : Hid (Mk w wr B G k 0) := hM
      clear hM
      go_wp2
      go_loopw [4] (L1i w B G k) (fun t _ => 16 - (intOf t).toNat)
      case atStart => exact ⟨0, by omega, rfl, HM.out⟩
      case round =>
        clear HM
        obtain ⟨i, hi, rfl, hM⟩ := hrel
        have hrow := hM.three.row k hlt
        by_cases hli : i < 16
        · have hdi : decide ((i : Int) < 16) = true := by simp; omega
          obtain ⟨v, hv⟩ := hM.three.lies k hlt i hli
          have hv1 := hv.1
          have hv2 := hv.2
          have HM : Hid (Mk w (wr.setCell ⟨G k, i, none⟩ (markV k)) B G k (i + 1)) := hM.store hlt hli
          clear hM hv
          go_wp2
          go_roundw
          case rel => exact ⟨i + 1, by omega, by go_num, HM.out⟩
          case measure => simp [intOf]; omega
        · obtain rfl : i = 16 := by omega
          have HM : Hid (Mk w wr B G (k + 1) 0) := hM.up
          clear hM
          go_wp2
          go_roundw
          case rel => exact ⟨k + 1, by omega, by go_num, HM.out⟩
          case measure => simp [intOf]; omega
    · obtain rfl : k = 3 := by omega
      have HM : Hid (Mk w wr B G 3 0) := hM
      clear hM
      rename World => W1
      simp only [Int.cast_ofNat_Int]
      have BB : Below W1.heap.size W1 W1 := Below.refl _ _
      go_wp2
      go_loopw [5, 6] (L2o W1) (fun _ t _ => 3 - (intOf t).toNat)
      case atStart => exact ⟨0, [], by omega, rfl, ⟨rfl, .inl ⟨rfl, rfl⟩⟩, fun j hj => by omega, BB⟩
      case round =>
        clear BB
        obtain ⟨k, ls, hk, rfl, hlong, hls, hB⟩ := hrel
        have HL : Hid (wr.ownsRow W1.heap.size 32 1 u5 k ls) := hlong
        have HLS : Hid (∀ j, j < k → ∃ v, ls[j]? = some v ∧ wr.ownsRow W1.heap.size 5 1 v 56 (List.replicate 56 (markV j))) := hls
        clear hlong hls
        by_cases hlt : k < 3
        · have hdk : decide ((k : Int) < 3) = true := by simp; omega
          have hrow := cell_later hB (HM.out.three.row k hlt)
          have HG : Hid (∀ t, t < 16 → wr.cell? ⟨G k, t, none⟩ = some (.int .u8 ((k : Int) + 1))) := fun t ht => cell_later hB (HM.out.done k hlt t ht (by omega))
          rename World => Wk
          have BB : Below Wk.heap.size Wk Wk := Below.refl _ _
          go_wp2
          go_loopw [7, 8] (L2i Wk G k) (fun _ t _ => 40 - (intOf t).toNat)
          case atStart => exact ⟨0, by omega, rfl, .inl ⟨rfl, rfl⟩, BB⟩
          case round =>
            clear BB
            obtain ⟨i, hi, rfl, hcase, hBk⟩ := hrel
            by_cases hli : i < 40
            · have hdi : decide ((i : Int) < 40) = true := by simp; omega
              have ew : IntKind.i64.wrap ((k : Int) + 1) = (k : Int) + 1 := wrap_small (by omega) (by omega)
              have eu : IntKind.u8.wrap ((k : Int) + 1) = (k : Int) + 1 := by rw [IntKind.wrap_u8]; omega
              rcases hcase with ⟨rfl, rfl⟩ | ⟨hi0, hown⟩
              · have hc16 : ∀ t, t < 16 → (wr.alloc (Obj.cells #[Value.int IntKind.u8 ((k : Int) + 1)] 5)).cell? ⟨G k, t, none⟩ = some (.int .u8 ((k : Int) + 1)) := fun t ht => cell_later (below1 _ _) (cell_later hBk (HG.out t ht))
                obtain ⟨v', w2, hrun, hown2, hb2⟩ := append_first (wr.alloc (Obj.cells #[Value.int IntKind.u8 ((k : Int) + 1)] 5)) (G k) ((k : Int) + 1) ⟨wr.heap.size, 0, none⟩ hc16 (cell_one_new _ _ _ 0 _ rfl)
                have HO2 : Hid (w2.ownsRow Wk.heap.size 5 1 v' 17 (List.replicate 17 (markV k))) := own_mono hown2 (by have := hBk.size; simp; omega)
                have HB2 : Hid (Below Wk.heap.size Wk w2) := below_call hBk ((below1 _ _).trans (hb2.mono (by simp)))
                have HR : Hid _ := hrun
                clear hc16 hown2 hb2 hrun
                go_wp2_with (first | (at_builtin; refine wpList_append_known rfl _ _ 32 rfl _ _ rfl rfl v' w2 HR.out ?_))
                go_roundw
                case rel => exact ⟨1, by omega, rfl, .inr ⟨by omega, HO2.out⟩, HB2.out⟩
                case measure => simp [intOf]
              · obtain ⟨ti, hi5, hz0, hz1, hz2⟩ := info_parts info5
                have HT : Hid (Try.prog.info? 5 = some ti ∧ ti.zero = some (.int .u8 0) ∧ ti.size = 1 ∧ ti.bytes = 1) := ⟨hi5, hz0, hz1, hz2⟩
                have HO : Hid (wr.ownsRow Wk.heap.size 5 1 u7 (16 + i) (List.replicate (16 + i) (markV k))) := hown
                clear hi5 hz0 hz1 hz2 hown
                go_wp2_with (first | (at_builtin; refine wpList_append_own _ rfl _ _ 32 rfl Wk.heap.size 5 ti (.int .u8 0) 1 1 Try.underlying32 HT.out.1 HT.out.2.1 HT.out.2.2.1 HT.out.2.2.2 rfl (by decide) _ _ _ rfl (HO.out.alloc _) ⟨wr.heap.size, 0, none⟩ 1 1 [markV k] rfl rfl ?c1 ?c2 ?c3 ?c4 ?c5 ?_))
                case c1 => exact cell_one_new _ _ _
                case c2 => intro u hu; simp at hu; subst hu; rfl
                case c3 => unfold maxLen; omega
                case c4 => omega
                case c5 => have := hBk.size; simp; omega
                intro v' w2 hown2 hgr _
                have HO2 : Hid (w2.ownsRow Wk.heap.size 5 1 v' (16 + (i + 1)) (List.replicate (16 + (i + 1)) (markV k))) := by
                  have e : List.replicate (16 + (i + 1)) (markV k) = List.replicate (16 + i) (markV k) ++ [markV k] := by rw [← Nat.add_assoc, List.replicate_succ']
                  rw [e]
                  exact hown2
                have HB2 : Hid (Below Wk.heap.size Wk w2) := below_grown' (Below.alloc hBk hBk.size (Obj.cells #[Value.int IntKind.u8 ((k : Int) + 1)] 5)) hgr (fun n hn => own_block HO.out n hn)
                clear hgr hown2
                go_wp2
                go_roundw
                case rel => exact ⟨i + 1, by omega, by go_num, .inr ⟨by omega, HO2.out⟩, HB2.out⟩
                case measure => simp [intOf]; omega
            · obtain rfl : i = 40 := by omega
              have hown : wr.ownsRow Wk.heap.size 5 1 u7 56 (List.replicate 56 (markV k)) := by
                rcases hcase with ⟨h, _⟩ | ⟨_, h⟩
                · omega
                · exact h
              clear hcase
              obtain ⟨ti, hi32, hz0, hz1, hz2⟩ := info_parts info32
              have HT : Hid (Try.prog.info? 32 = some ti ∧ ti.zero = some (.slice none 0 0) ∧ ti.size = 1 ∧ ti.bytes = 24) := ⟨hi32, hz0, hz1, hz2⟩
              have HO : Hid (wr.ownsRow W1.heap.size 5 1 u7 56 (List.replicate 56 (markV k))) := own_mono hown hB.size
              have HL2 : Hid (wr.ownsRow W1.heap.size 32 1 u5 k ls) := own_later hBk HL.out
              have HLS2 : Hid (∀ j, j < k → ∃ v, ls[j]? = some v ∧ wr.ownsRow W1.heap.size 5 1 v 56 (List.replicate 56 (markV j))) := fun j hj => by
                obtain ⟨v, h1, h2⟩ := HLS.out j hj
                exact ⟨v, h1, own_later hBk h2⟩
              have HB2 : Hid (Below W1.heap.size W1 wr) := below_call hB hBk
              obtain ⟨g7, c7, rfl⟩ : ∃ g c, u7 = .slice (some ⟨g, 0, none⟩) 56 c := by
                rcases hown.2 with ⟨_, h⟩ | ⟨g, c, _, h, _⟩
                · omega
                · exact ⟨g, c, h⟩
              have hll : ls.length = k := by have := HL.out.1; omega
              clear hi32 hz0 hz1 hz2 hown hB hBk
              go_wp2_with (first | (at_builtin; refine wpList_append_own _ rfl _ _ 41 rfl W1.heap.size 32 ti (.slice none 0 0) 1 24 Try.underlying41 HT.out.1 HT.out.2.1 HT.out.2.2.1 HT.out.2.2.2 rfl (by decide) _ _ _ rfl (HL2.out.alloc _) ⟨wr.heap.size, 0, none⟩ 1 1 [.slice (some ⟨g7, 0, none⟩) 56 c7] rfl rfl ?c1 ?c2 ?c3 ?c4 ?c5 ?_))
              case c1 => exact cell_one_new _ _ _
              case c2 => intro u hu; simp at hu; subst hu; rfl
              case c3 => unfold maxLen; omega
              case c4 => omega
              case c5 => have := HB2.out.size; simp; omega
              intro v' w2 hown2 hgr _
              have HO2 : Hid (w2.ownsRow W1.heap.size 32 1 v' (k + 1) (ls ++ [.slice (some ⟨g7, 0, none⟩) 56 c7])) := hown2
              have HLS3 : Hid (∀ j, j < k + 1 → ∃ v, (ls ++ [Value.slice (some ⟨g7, 0, none⟩) 56 c7])[j]? = some v ∧ w2.ownsRow W1.heap.size 5 1 v 56 (List.replicate 56 (markV j))) := fun j hj => by
                rcases Nat.lt_or_ge j k with h | h
                · obtain ⟨v, h1, h2⟩ := HLS2.out j h
                  refine ⟨v, by rw [List.getElem?_append_left (by omega)]; exact h1, (h2.alloc _).kept hgr ?_⟩
                  exact own_apart h2 HL2.out (by decide)
                · obtain rfl : j = k := by omega
                  refine ⟨_, by rw [List.getElem?_append_right (by omega), hll, Nat.sub_self]; rfl, (HO.out.alloc _).kept hgr ?_⟩
                  exact own_apart HO.out HL2.out (by decide)
              have HB3 : Hid (Below W1.heap.size W1 w2) := below_grown' (Below.alloc HB2.out HB2.out.size (Obj.cells #[Value.slice (some ⟨g7, 0, none⟩) 56 c7] 32)) hgr (fun n hn => own_block HL2.out n hn)
              clear hgr hown2
              go_wp2
              go_roundw
              case rel => exact ⟨k + 1, _, by omega, by go_num, HO2.out, HLS3.out, HB3.out⟩
              case measure => simp [intOf]; omega
        · obtain rfl : k = 3 := by omega
          obtain ⟨gl, cl, rfl⟩ : ∃ g c, u5 = .slice (some ⟨g, 0, none⟩) 3 c := by
            rcases HL.out.2 with ⟨_, h⟩ | ⟨g, c, _, h, _⟩
            · omega
            · exact ⟨g, c, h⟩
          have HR : Hid (∀ j, j < 3 → wr.cell? ⟨B, j, none⟩ = some (.slice (some ⟨G j, 0, none⟩) 16 16) ∧ (∀ t, t < 16 → wr.cell? ⟨G j, t, none⟩ = some (.int .u8 ((j : Int) + 1))) ∧ ∃ gj cj, wr.cell? ⟨gl, j, none⟩ = some (.slice (some ⟨gj, 0, none⟩) 56 cj) ∧ ∀ t, t < 56 → wr.cell? ⟨gj, t, none⟩ = some (.int .u8 ((j : Int) + 1))) := fun j hj => by
            refine ⟨cell_later hB (HM.out.three.row j hj), fun t ht => cell_later hB (HM.out.done j hj t ht (by omega)), ?_⟩
            obtain ⟨v, h1, h2⟩ := HLS.out j hj
            have h3 := HL.out.cells (g := gl) rfl j v h1
            rw [addr_add0] at h3
            obtain ⟨gj, cj, rfl⟩ : ∃ g c, v = .slice (some ⟨g, 0, none⟩) 56 c := by
              rcases h2.2 with ⟨_, h⟩ | ⟨g, c, _, h, _⟩
              · omega
              · exact ⟨g, c, h⟩
            refine ⟨gj, cj, h3, fun t ht => ?_⟩
            have h4 := h2.cells (g := gj) rfl t (markV j) (by rw [List.getElem?_replicate, if_pos ht])
            rw [addr_add0] at h4
            exact h4
          have HS : Hid (Stays w wr G) := ⟨hB.os.trans HM.out.stays.os, hB.tape.trans HM.out.stays.tape, hB.output.trans HM.out.stays.output, Nat.le_trans HM.out.stays.size hB.size, fun b hb hn => (hB.block b (Nat.lt_of_lt_of_le hb HM.out.stays.size)).trans (HM.out.stays.block b hb hn)⟩
          clear HM HL HLS hB
          rename World => W2
          simp only [Int.cast_ofNat_Int]
          go_wp2
          go_loopw [9] (fun t w' => ∃ k : Nat, k ≤ 3 ∧ t = .int .i64 (k : Int) ∧ W2 = w') (fun t _ => 3 - (intOf t).toNat)
          case atStart => exact ⟨0, by omega, rfl, rfl⟩
          case round =>
            obtain ⟨k, hk, rfl, rfl⟩ := hrel
            by_cases hlt : k < 3
            · have hdk : decide ((k : Int) < 3) = true := by simp; omega
              obtain ⟨hr1, hr2, gk, ck, hr3, hr4⟩ := HR.out k hlt
              have HR2 : Hid (∀ t, t < 16 → W2.cell? ⟨G k, t, none⟩ = some (.int .u8 ((k : Int) + 1))) := hr2
              have HR4 : Hid (∀ t, t < 56 → W2.cell? ⟨gk, t, none⟩ = some (.int .u8 ((k : Int) + 1))) := hr4
              clear hr2 hr4
              go_wp2
              go_loopw [10] (fun t w' => ∃ i : Nat, i ≤ 56 ∧ t = .int .i64 (i : Int) ∧ W2 = w') (fun t _ => 56 - (intOf t).toNat)
              case atStart => exact ⟨0, by omega, rfl, rfl⟩
              case round =>
                obtain ⟨i, hi, rfl, rfl⟩ := hrel
                have ew : IntKind.i64.wrap ((k : Int) + 1) = (k : Int) + 1 := wrap_small (by omega) (by omega)
                have eu : IntKind.u8.wrap ((k : Int) + 1) = (k : Int) + 1 := by rw [IntKind.wrap_u8]; omega
                by_cases h56 : i < 56
                · have hdi : decide ((i : Int) < 56) = true := by simp; omega
                  have hc := HR4.out i h56
                  by_cases h16 : i < 16
                  · have hd16 : decide ((i : Int) < 16) = true := by simp; omega
                    have hc2 := HR2.out i h16
                    go_wp2
                    go_roundw
                    case rel => exact ⟨i + 1, by omega, by go_num, trivial⟩
                    case measure => simp [intOf]; omega
                  · have hd16 : decide ((i : Int) < 16) = false := by simp; omega
                    go_wp2
                    go_roundw
                    case rel => exact ⟨i + 1, by omega, by go_num, trivial⟩
                    case measure => simp [intOf]; omega
                · obtain rfl : i = 56 := by omega
                  go_wp2
                  go_roundw
                  case rel => exact ⟨k + 1, by omega, by go_num, trivial⟩
                  case measure => simp [intOf]; omega
            · obtain rfl : k = 3 := by omega
              go_wp2
              go_ret
              exact ⟨rfl, HS.out⟩
end Go.Proofs.Ytcafmhlnfkgegaa
