import Derived.Test.YtlkjieophdabpaaF2
namespace Go.Proofs.Ytlkjieophdabpaa
open Go.RowKit
set_option linter.unusedVariables false
set_option linter.unusedSimpArgs false

set_option maxRecDepth 100000 in
set_option maxHeartbeats 2000000 in
theorem apart_any (lb wb lc wc K : Nat) (a : Nat → Option Addr) (N C : Nat → Nat) (L : Nat → List Int) (A' : Nat → Option Addr) (C' : Nat → Nat) (w : World) (hK : K ≤ 40) (hKc : K ≤ lc) (h : Fam w K a N C L)
    (hl : ∀ q, q < K → w.cell? ⟨lb, q, none⟩ = some (.slice (a q) (N q) (C q))) (hw : ∀ q, q < K → w.cell? ⟨wb, q, none⟩ = some (.slice (A' q) (N q) (C' q)))
    (hwr : ∀ q, q < K → Row w (A' q) (N q) (C' q) (ints (L q))) (HLB : Hid (¬ Bs K a lb)) :
    Calls Try.prog 15 #[.slice (some ⟨lb, 0, none⟩) K lc, .slice (some ⟨wb, 0, none⟩) K wc] w fun e w' => e = .returned (.bool true) ∧ But (Bs K a) w w' := by
  have H := hid h
  have HL := hid hl
  have HW := hid hw
  have HWR := hid hwr
  clear h hl hw hwr
  go_enter Try.func15, Try.ntmps15
  go_upto_region 3 with fail
  go_loopw [6] (ApRel1 w K) (fun k _ => K - (intOf k).toNat)
  case atStart => exact ⟨0, 0, rfl, by omega, rfl⟩
  case round =>
    obtain ⟨i, k, rfl, hi, rfl⟩ := hrel
    by_cases hlt : i < K
    · have hd : decide ((i : Int) < (K : Int)) = true := decide_eq_true (by omega)
      have hi4 : (i : Int) < (K : Int) := by omega
      have hi0 : (0 : Int) ≤ (i : Int) := by omega
      have y := HL.out i hlt
      have z := HW.out i hlt
      have hN := H.out.small i hlt
      obtain ⟨ai, hai⟩ : ∃ x, x = a i := ⟨_, rfl⟩
      obtain ⟨n, hn⟩ : ∃ n, n = N i := ⟨_, rfl⟩
      obtain ⟨c, hc⟩ : ∃ c, c = C i := ⟨_, rfl⟩
      obtain ⟨a', ha'⟩ : ∃ a, a = A' i := ⟨_, rfl⟩
      obtain ⟨c', hc'⟩ : ∃ c, c = C' i := ⟨_, rfl⟩
      have HR1 : Hid (Row w ai n c (ints (L i))) := hid (by rw [hai, hn, hc]; exact (H.out.own i hlt).read)
      have HR2 : Hid (Row w a' n c' (ints (L i))) := hid (by rw [ha', hn, hc']; exact HWR.out i hlt)
      rw [← hai, ← hn, ← hc] at y
      rw [← ha', ← hn, ← hc'] at z
      rw [← hn] at hN
      clear hai hn hc ha' hc'
      go_upto_region 5 with fail
      obtain ⟨w1, hw1⟩ : ∃ w1, w1 = w.drewN k := ⟨_, rfl⟩
      have hbd : Below w.heap.size w w1 := by rw [hw1]; exact below_drewN (Below.refl _ _) k
      rw [← hw1]
      replace HR1 := hid (HR1.out.later hbd)
      replace HR2 := hid (HR2.out.later hbd)
      replace y := cell_later hbd y
      replace z := cell_later hbd z
      have HW1 := hid hw1
      clear hw1 hbd
      go_quiet (first | (go_at_call 16; refine Calls.quiet_of (numbers_same _ _ _ _ _ _ (L i) _ (HR1.out.later (below_drewN (Below.refl _ _) _)) (HR2.out.later (below_drewN (Below.refl _ _) _)) (by omega))))
      go_wp2
      exact ⟨⟨i + 1, k + nq, rfl, by omega, by rw [HW1.out, World.drewN_drewN]⟩, by simp [intOf]; omega⟩
    · obtain rfl : K = i := by omega
      have HB0 : Hid (Below w.heap.size w (w.drewN k)) := hid (below_drewN (Below.refl _ _) k)
      generalize w.drewN k = w1 at HB0 ⊢
      have H1 := hid (H.out.later HB0.out)
      have HL1 : Hid (∀ q, q < K → w1.cell? ⟨lb, q, none⟩ = some (.slice (a q) (N q) (C q))) := hid (fun q hq => cell_later HB0.out (HL.out q hq))
      clear H HL HW HWR
      go_upto_region 8 with fail
      go_loopw [7] (ApRel2 w1 K a N C L) (fun k _ => K - (intOf k).toNat)
      case atStart => exact ⟨0, rfl, by omega, H1.out.congr (fun q _ => by simp [Lw]), But.refl _ _⟩
      case round =>
        obtain ⟨i, rfl, hi, hF, hB⟩ := hrel
        have HF := hid hF
        have HB := hid hB
        clear hF hB
        by_cases hlt : i < K
        · have hd : decide ((i : Int) < (K : Int)) = true := decide_eq_true (by omega)
          have hN := HF.out.small i hlt
          obtain ⟨ai, hai⟩ : ∃ x, x = a i := ⟨_, rfl⟩
          obtain ⟨n, hn⟩ : ∃ n, n = N i := ⟨_, rfl⟩
          obtain ⟨c, hc⟩ : ∃ c, c = C i := ⟨_, rfl⟩
          have HAI := hid hai
          have HNI := hid hn
          have y := HL1.out i hlt
          rw [← hai, ← hn, ← hc] at y
          rw [← hn] at hN
          have hle := H1.out.len hlt
          have HLE := hid hle
          clear hai hn hc hle
          go_upto_region 11 with fail
          go_loopw [8] (ApRel3 w1 K a N C L i) (fun k _ => n - (intOf k).toNat)
          case atStart => exact ⟨0, rfl, by omega, HF.out.congr (fun q _ => (Lj_zero N L i q).symm), HB.out⟩
          case round =>
            obtain ⟨j, rfl, hj, hF, hB⟩ := hrel
            have HF := hid hF
            have HB := hid hB
            rw [← HNI.out] at hj
            have y2 := cell_but hB y HLB.out
            clear hF hB
            by_cases hlt2 : j < n
            · have hd2 : decide ((j : Int) < (n : Int)) = true := decide_eq_true (by omega)
              obtain ⟨gi, v, hgi, hv⟩ := HF.out.lies hlt (j := j) (by rw [← HNI.out]; exact hlt2)
              have v1 := hv.1
              have v2 := hv.2
              have hae : ai = some ⟨gi, 0, none⟩ := by rw [HAI.out]; exact hgi
              rw [hae] at y2
              have HN2 := hid (HF.out.set (v := mk i) (j := j) hlt hgi (fun q _ => Lj_next N L i j q (by rw [HLE.out, ← HNI.out]; exact hlt2)))
              have HNB := hid (HB.out.setCell (p := ⟨gi, j, none⟩) (show Bs K a gi from ⟨i, hlt, by rw [hgi]; exact ⟨_, rfl, rfl⟩⟩) (.int .i64 (mk i)))
              unfold mk at HN2 HNB
              clear hv hgi hae y
              go_wp2
              exact ⟨⟨j + 1, rfl, by rw [← HNI.out]; omega, HN2.out, HNB.out⟩, by simp [intOf]; omega⟩
            · have hd2 : decide ((j : Int) < (n : Int)) = false := decide_eq_false (by omega)
              have hjn : j = N i := by rw [← HNI.out]; omega
              have HN2 := hid (Fam.congr (M := Lw N L (i + 1)) HF.out (fun q _ => by rw [hjn]; exact Lj_done N L i q HLE.out))
              clear hjn
              go_wp2
              exact ⟨⟨i + 1, rfl, by omega, HN2.out, HB.out⟩, by simp [intOf]; omega⟩
        · obtain rfl : K = i := by omega
          have HF4 := hid (Fam.congr (M := fun q => List.replicate (N q) (mk q)) HF.out (fun q hq => by simp [Lw, hq]))
          have HB4 := hid ((But.of HB0.out).trans HB.out)
          have HL4 := hid (fun q hq => cell_but HB.out (HL1.out q hq) HLB.out)
          clear HF HB HL1 H1 HB0
          go_upto_region 15 with fail
          rename World => w4
          go_loopw [5, 9] (ApRel4 w4 K a N C) (fun _ k _ => K - (intOf k).toNat)
          case atStart => exact ⟨0, none, 0, fun _ => none, fun _ => 0, rfl, rfl, by omega, Own.nil _ _ _, fun q hq => by omega, fun q hq => (HF4.out.own q hq).read, fun q _ hq => HF4.out.own q hq, But.refl _ _⟩
          case round =>
            obtain ⟨i, ma, mc, AA, CC, rfl, rfl, hi, hO, hA, hLr, hG, hB⟩ := hrel
            rename World => wq
            by_cases hlt : i < K
            · have hd : decide ((i : Int) < (K : Int)) = true := decide_eq_true (by omega)
              have hN := HF4.out.small i hlt
              have y := cell_but hB (HL4.out i hlt) HLB.out
              have HGI := hid (hG i (Nat.le_refl _) hlt)
              have HLT : Hid (∀ k, Blk (a i) k → k < wq.heap.size) := hid (fun k hk => Nat.lt_of_lt_of_le (HF4.out.lt i hlt k hk) hB.size)
              have HNX : Hid (∀ (w1 : World) (a' : Option Addr) (c' : Nat), Own w1 0 3 a' (N i + 80) c' (ints (List.replicate (N i) (mk i) ++ List.replicate 80 (mk i))) → Gr (a i) a' wq w1 → Row w1 (a i) (N i) (C i) (ints (List.replicate (N i) (mk i))) →
                ∃ ma' mc' w3, (Builtin.append_ #[37, 37] 37 #[.slice ma i mc, .slice (some ⟨w1.heap.size, 0, none⟩) 1 1]).run Try.prog (w1.alloc (Obj.cells #[.slice a' (N i + 80) c'] 22)) = .ok (.slice ma' (i + 1) mc') w3 ∧ ApRel4 w4 K a N C (.slice ma' (i + 1) mc') (.int .i64 ((i + 1 : Nat) : Int)) w3) :=
                hid (fun w1 a' c' h1 h2 h3 => ApRel4.next HF4.out.lt HF4.out.inj hK HF4.out.small hlt hO hA hLr hG hB h1 h2 h3)
              clear hO hA hLr hG hB
              have hmk : mk i = -100 - (i : Int) := rfl
              rw [hmk] at HGI HNX
              obtain ⟨ai, hai⟩ : ∃ x, x = a i := ⟨_, rfl⟩
              obtain ⟨n, hn⟩ : ∃ n, n = N i := ⟨_, rfl⟩
              obtain ⟨c, hc⟩ : ∃ c, c = C i := ⟨_, rfl⟩
              rw [← hai, ← hn, ← hc] at y HGI HNX
              rw [← hai] at HLT
              rw [← hn] at hN
              clear hai hn hc hmk
              go_wp2_with (first | (go_at_call 28; refine (grown_keep 0 _ n c (List.replicate n (-100 - (i : Int))) (-100 - (i : Int)) _ (.inl HGI.out) HLT.out (Nat.zero_le _) (by omega)).mono ?_; rintro e w1 ⟨a', c', rfl, O1, G1, R1⟩; obtain ⟨ma', mc', w3, hrun, hnext⟩ := HNX.out w1 a' c' O1 G1 R1; replace hrun := hid hrun; replace hnext := hid hnext; clear O1 G1 R1) | (at_builtin; refine wpList_append_known rfl _ _ 37 rfl _ _ rfl rfl _ w3 hrun.out ?_))
              exact ⟨hnext.out, by simp [intOf]; omega⟩
            · obtain rfl : K = i := by omega
              have HO := hid hO
              have HA := hid hA
              have HLr := hid hLr
              have HBq := hid (HB4.out.comp hB (fun k hk => .inl hk))
              have HLq := hid (fun q hq => cell_but hB (HL4.out q hq) HLB.out)
              clear hO hA hLr hG hB HL4 HB4
              go_upto_region 19 with fail
              go_loopw [10] (fun v w' => ∃ i : Nat, v = .int .i64 (i : Int) ∧ i ≤ K ∧ wq = w') (fun k _ => K - (intOf k).toNat)
              case atStart => exact ⟨0, rfl, by omega, rfl⟩
              case round =>
                obtain ⟨i, rfl, hi, rfl⟩ := hrel
                by_cases hlt : i < K
                · have hd : decide ((i : Int) < (K : Int)) = true := decide_eq_true (by omega)
                  have hN := HF4.out.small i hlt
                  have y := HLq.out i hlt
                  obtain ⟨mb, rfl⟩ := HO.out.form (by omega)
                  have z := HO.out.read.cells _ rfl i (ent N AA CC i) (by simp [hlt])
                  rw [addr_add0] at z
                  unfold ent at z
                  have HR1 := hid (HLr.out i hlt)
                  have HR2 := hid (HA.out i hlt).1
                  have hmk : mk i = -100 - (i : Int) := rfl
                  rw [hmk] at HR1 HR2
                  obtain ⟨ai, hai⟩ : ∃ x, x = a i := ⟨_, rfl⟩
                  obtain ⟨n, hn⟩ : ∃ n, n = N i := ⟨_, rfl⟩
                  obtain ⟨c, hc⟩ : ∃ c, c = C i := ⟨_, rfl⟩
                  obtain ⟨a2, ha2⟩ : ∃ a, a = AA i := ⟨_, rfl⟩
                  obtain ⟨c2, hc2⟩ : ∃ c, c = CC i := ⟨_, rfl⟩
                  rw [← hai, ← hn, ← hc] at y HR1
                  rw [← ha2, ← hn, ← hc2] at z HR2
                  rw [← hn] at hN
                  clear hai hn hc ha2 hc2 hmk
                  go_wp2_with (first | (go_at_call 29; have hq_ := MK; clear hq_; refine (full_any _ (n + 80) c2 (-100 - (i : Int)) _ HR2.out (by omega)).mono ?_; rintro e w8 ⟨rfl, rfl⟩) | (go_at_call 29; refine (full_any _ n c (-100 - (i : Int)) _ HR1.out (by omega)).mono ?_; rintro e w7 ⟨rfl, rfl⟩; obtain ⟨MK, _⟩ : ∃ m : Nat, m = 0 := ⟨0, rfl⟩))
                  exact ⟨⟨i + 1, rfl, by omega, trivial⟩, by simp [intOf]; omega⟩
                · obtain rfl : K = i := by omega
                  go_wp2
                  go_ret
                  exact ⟨rfl, HBq.out⟩
end Go.Proofs.Ytlkjieophdabpaa
