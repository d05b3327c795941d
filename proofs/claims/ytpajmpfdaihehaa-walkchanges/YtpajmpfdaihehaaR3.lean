import Derived.Test.YtpajmpfdaihehaaR2
namespace Go.Proofs.Ytpajmpfdaihehaa
open Go.RowKit
set_option linter.unusedVariables false

def RcutRel (w : World) (l : Fo) (n : Int) (v t : Value) (w' : World) : Prop :=
  ∃ (i : Nat) (a : Option Addr) (k cap : Nat), i ≤ l.length ∧ k ≤ i ∧ k = (cut (l.take i) n).length ∧ v = .slice a k cap ∧ t = .int .i64 (i : Int) ∧ w'.ownsRow w.heap.size 78 2 (.slice a k cap) k (nds (cut (l.take i) n)) ∧ Below w.heap.size w w'
set_option maxRecDepth 100000 in
set_option maxHeartbeats 1000000 in
theorem rcut_any {w : World} {g hb m : Nat} {l : Fo} (h : Re w g hb m l) (n : Int) (hh : hb ≤ w.heap.size) :
    Calls Try.prog 33 #[.pointer (some ⟨g, 0, none⟩), .int .i64 n] w (Dd w g hb m (cutE l n) (cutL l n)) := by
  have hr := rhas_any h n
  have hk := hid (rchildren_any h n)
  have HH := hid h
  obtain ⟨a, cap, h⟩ := h
  have hbig := h.big
  have hlen := h.ok.len
  unfold cutE cutL
  by_cases h1 : n ∈ nums l
  · rw [decide_eq_true h1] at hr
    rw [kids_in h.ok h1] at hk
    rw [if_pos h1]
    by_cases h2 : ch l n = []
    · rw [if_pos h2, if_pos ⟨h1, h2⟩]
      rw [h2] at hk
      have HF := hid h
      have HOK := hid (h.ok.cut n h2)
      clear h h1 h2
      go_enter Try.func33, Try.ntmps33
      go_upto_region 7 with (first | (go_at_call 50; refine hr.mono ?_; rintro e w1 ⟨rfl, rfl⟩) | (go_at_call 29; refine hk.out.mono ?_; rintro e w2 ⟨a2, k2, c2, rfl, hO2, hb2⟩; have hl2 := hO2.len; rw [ints_length] at hl2; obtain rfl : 0 = k2 := hl2; have HB2 := hid hb2; clear hO2 hb2))
      go_loopw [5, 6] (RcutRel w1 l n) (fun _ t _ => l.length - (intOf t).toNat)
      case atStart => exact ⟨0, none, 0, 0, Nat.zero_le _, Nat.le_refl _, rfl, rfl, rfl, ⟨rfl, .inl ⟨rfl, rfl⟩⟩, HB2.out⟩
      case round =>
        clear hr hk HB2
        obtain ⟨i, a2, k, cap2, hi, hki, hkl, rfl, rfl, hO, hB⟩ := hrel
        have hR := HF.out.later hB
        have x1 := hR.c1.1
        have HKL := hid hkl
        have HO := hid hO
        have HB := hid hB
        clear hO hB hkl
        by_cases hlt : i < l.length
        · obtain ⟨y, hy⟩ : ∃ y, l[i]? = some y := ⟨_, List.getElem?_eq_getElem hlt⟩
          obtain ⟨b, rfl, hP⟩ := nds_at hR.own hy
          have c0 := hP.c0
          have c1 := hP.c1
          have HST := hid (fo_step l i y hy)
          clear hy hP hR
          by_cases hc : y.1 = n
          · have hd : (y.1 == n) = true := by simpa using hc
            have HO2 : Hid (wr.ownsRow w1.heap.size 78 2 (.slice a2 k cap2) k (nds (cut (l.take (i + 1)) n))) := by
              rw [HST.out, cut_app, if_pos hc, List.append_nil]
              exact HO
            have HKL2 : Hid (k = (cut (l.take (i + 1)) n).length) := by
              rw [HST.out, cut_app, if_pos hc, List.append_nil]
              exact HKL
            clear hc
            go_wp2
            go_roundw
            case rel => exact ⟨i + 1, a2, k, cap2, by omega, by omega, HKL2.out, rfl, by go_num, HO2.out, HB.out⟩
            case measure => simp [intOf]; omega
          · have hd : (y.1 == n) = false := by simpa using hc
            obtain ⟨a', cap', w3, hrun, hO3, hG⟩ := append_k 79 78 _ 2 16 Try.underlying79 info78 rfl (by omega) (by omega) (own_but (S := fun _ => False) (But.of (below1 wr (Obj.cells #[.int .i64 y.1, .int .i64 y.2] 78))) HO.out (fun _ _ h => h)) (Cr.node wr y) (by have := HB.out.size; simp; omega) (by omega)
            have hB3 : Below w1.heap.size w1 w3 := by
              have hA := HB.out.alloc HB.out.size (Obj.cells #[.int .i64 y.1, .int .i64 y.2] 78)
              refine ⟨hG.but.os.trans hA.os, hG.but.tape.trans hA.tape, hG.but.output.trans hA.output, Nat.le_trans hA.size hG.but.size, fun j hj => ?_⟩
              have hs := HB.out.size
              rw [hG.but.block j (by simp; omega) (fun hb => by have := (own_block HO.out j (Blk.of.2 hb)).1; omega)]
              exact hA.block j hj
            have HRUN := hid hrun
            have HO3 : Hid (w3.ownsRow w1.heap.size 78 2 (.slice a' (k + 1) cap') (k + 1) (nds (cut (l.take (i + 1)) n))) := by
              rw [HST.out, cut_app, if_neg hc, nds_append]
              exact hO3
            have HKL2 : Hid (k + 1 = (cut (l.take (i + 1)) n).length) := by
              unfold Hid
              rw [HST.out, cut_app, if_neg hc, List.length_append, ← HKL.out]
              rfl
            have HB3 := hid hB3
            clear hc hrun hO3 hG hB3
            go_wp2_with (first | (at_builtin; refine wpList_append_known rfl _ _ 79 rfl _ _ rfl rfl _ w3 HRUN.out ?_))
            go_roundw
            case rel => exact ⟨i + 1, a', k + 1, cap', by omega, by omega, HKL2.out, rfl, by go_num, HO3.out, HB3.out⟩
            case measure => simp [intOf]; omega
        · obtain rfl : i = l.length := by omega
          have x1' := hR.c1.2
          have HKE : Hid (k = (cut l n).length) := by have := HKL.out; rw [List.take_length] at this; exact this
          have HOE : Hid (wr.ownsRow w1.heap.size 78 2 (.slice a2 k cap2) k (nds (cut l n))) := by have := HO.out; rw [List.take_length] at this; exact this
          have HR := hid hR
          clear hR
          have HZ : Hid (Re (wr.setCell ⟨g, 1, none⟩ (.slice a2 k cap2)) g hb m (cut l n)) := by
            have hg := HF.out.lt
            have hne : ∀ j, Blk a2 j → j ≠ g := fun j hj e => by have := (own_block HOE.out j (Blk.of.2 hj)).1; omega
            have hb2 : But (· = g) wr (wr.setCell ⟨g, 1, none⟩ (.slice a2 k cap2)) := (But.refl (· = g) wr).setCell (p := ⟨g, 1, none⟩) (show g = g from rfl) _
            refine ⟨a2, cap2, cell_ne HR.out.c0 (by omega), ?_, ?_, hne, HF.out.at_, HOK.out, hbig⟩
            · rw [← HKE.out]; exact HR.out.c1.put
            · rw [← HKE.out]; exact own_mono (own_but hb2 HOE.out (fun j hj e => hne j (Blk.of.1 hj) e)) hh
          have HBZ : Hid (But (Rb w1 g) w1 (wr.setCell ⟨g, 1, none⟩ (.slice a2 k cap2))) := hid ((But.of HB.out).setCell (p := ⟨g, 1, none⟩) (.inl rfl) _)
          go_wp2
          go_ret
          exact ⟨rfl, HZ.out, HBZ.out⟩
    · rw [if_neg h2, if_neg (fun e => h2 e.2)]
      have hpos : 0 < (ch l n).length := List.length_pos_iff.2 h2
      clear h h1 h2
      go_enter Try.func33, Try.ntmps33
      go_wp2_with (first | (go_at_call 50; refine hr.mono ?_; rintro e w1 ⟨rfl, rfl⟩) | (go_at_call 29; refine hk.out.mono ?_; rintro e w2 ⟨a2, k2, c2, rfl, hO2, hb2⟩; have hl2 := hO2.len; rw [ints_length] at hl2; have hp2 : 0 < k2 := (by omega); have HB2 := hid hb2; clear hO2 hb2))
      go_ret
      exact ⟨rfl, HH.out.later HB2.out, But.of HB2.out⟩
  · rw [decide_eq_false h1] at hr
    rw [if_neg h1, if_neg (fun e => h1 e.1)]
    clear h h1 hk
    go_enter Try.func33, Try.ntmps33
    go_wp2_with (first | (go_at_call 50; refine hr.mono ?_; rintro e w1 ⟨rfl, rfl⟩))
    go_ret
    exact ⟨rfl, HH.out, But.refl _ _⟩
set_option maxRecDepth 100000 in
set_option maxHeartbeats 1000000 in
theorem rnew_ok (w : World) (m : Nat) (h1 : m ≤ 1024) : Calls Try.prog 30 #[.int .i64 (m : Int)] w fun e w' => e = .returned (.tuple #[.pointer (some ⟨w.heap.size, 0, none⟩), .int .i64 0]) ∧ Re w' w.heap.size w.heap.size m [] ∧ Below w.heap.size w w' := by
  have hk1 : ¬ (m : Int) < 0 := by omega
  have hk2 : ¬ (1024 : Int) < (m : Int) := by omega
  go_enter Try.func30, Try.ntmps30
  go_wp2
  refine bodyPost_ret (v := .tuple #[.pointer (some ⟨w.heap.size, 0, none⟩), .int .i64 0]) (by simp [results, Try.results30, go_sem]) rfl ⟨rfl, ⟨none, 0, by simp [go_sem], ⟨by simp [go_sem], by simp [go_sem]⟩, ⟨rfl, .inl ⟨rfl, rfl⟩⟩, fun k hk => (by obtain ⟨x, hx, _⟩ := hk; cases hx), Nat.le_refl _, .nil, h1⟩, below1 _ _⟩
set_option maxRecDepth 100000 in
set_option maxHeartbeats 1000000 in
theorem rnew_bad (w : World) (m : Int) (hb : m < 0 ∨ 1024 < m) :
    Calls Try.prog 30 #[.int .i64 m] w fun e w' => e = .returned (.tuple #[.pointer none, .int .i64 16]) ∧ w' = w := by
  by_cases h1 : m < 0
  · clear hb
    go_enter Try.func30, Try.ntmps30
    go_wp2
    exact bodyPost_ret (v := .tuple #[.pointer none, .int .i64 16]) (by simp [results, Try.results30, go_sem]) rfl ⟨rfl, rfl⟩
  · have h4 : 1024 < m := by omega
    clear hb
    go_enter Try.func30, Try.ntmps30
    go_wp2
    exact bodyPost_ret (v := .tuple #[.pointer none, .int .i64 16]) (by simp [results, Try.results30, go_sem]) rfl ⟨rfl, rfl⟩
theorem Dd.pre {w w1 : World} {g hb m : Nat} {c : Int} {l : Fo} {e : Ending} {w' : World} (h0 : Below w.heap.size w w1) (hg : g < w.heap.size) (h : Dd w1 g hb m c l e w') : Dd w g hb m c l e w' :=
  ⟨h.1, h.2.1, (But.of h0).trans (h.2.2.mono (fun k hk => hk.same (h0.block g hg)))⟩
end Go.Proofs.Ytpajmpfdaihehaa
