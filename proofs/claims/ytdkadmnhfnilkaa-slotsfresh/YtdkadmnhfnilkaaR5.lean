import Derived.Test.YtdkadmnhfnilkaaR4
import Derived.Test.YtdkadmnhfnilkaaQ1
namespace Go.Proofs.Ytdkadmnhfnilkaa
open Go.RowKit
set_option linter.unusedVariables false
set_option linter.unusedSimpArgs false

theorem ins_perm (K : List Cp) (d : Cp) (j : Nat) : (K.take j ++ [d] ++ K.drop j).Perm (d :: K) := by
  have h : (K.take j ++ [d] ++ K.drop j).Perm (d :: (K.take j ++ K.drop j)) := by rw [List.append_assoc]; exact List.perm_middle
  rwa [List.take_append_drop] at h
theorem ins_sorted {K : List Cp} {d : Cp} {j : Nat} (hs : K.Pairwise (fun x y => ¬ ltC y x)) (hlt : ∀ (m : Nat) (c : Cp), m < j → K[m]? = some c → ltC c d) (hge : ∀ c, K[j]? = some c → ¬ ltC c d) : (K.take j ++ [d] ++ K.drop j).Pairwise (fun x y => ¬ ltC y x) := by
  have hs2 := hs
  rw [← List.take_append_drop j K, List.pairwise_append] at hs2
  obtain ⟨p1, p2, p3⟩ := hs2
  have htk : ∀ a, a ∈ K.take j → ltC a d := fun a ha => by
    obtain ⟨m, hm⟩ := List.getElem?_of_mem ha
    rw [List.getElem?_take] at hm
    split at hm
    · next h => exact hlt m a h hm
    · cases hm
  have hdr : ∀ b, b ∈ K.drop j → ¬ ltC b d := fun b hb => by
    cases hd : K.drop j with
    | nil => rw [hd] at hb; cases hb
    | cons k r =>
      have hk : K[j]? = some k := by
        have : (K.drop j)[0]? = some k := by rw [hd]; rfl
        rwa [List.getElem?_drop, Nat.add_zero] at this
      have hk2 := hge k hk
      rw [hd] at hb p2
      rcases List.mem_cons.1 hb with rfl | hb
      · exact hk2
      · have := (List.pairwise_cons.1 p2).1 b hb
        unfold ltC at *
        omega
  rw [List.pairwise_append, List.pairwise_append]
  refine ⟨⟨p1, List.pairwise_singleton _ _, fun a ha b hb => ?_⟩, p2, fun a ha b hb => ?_⟩
  · simp only [List.mem_singleton] at hb
    subst hb
    have := htk a ha
    unfold ltC at *
    omega
  · rcases List.mem_append.1 ha with ha | ha
    · exact p3 a ha b hb
    · simp only [List.mem_singleton] at ha
      subst ha
      exact hdr b hb
theorem cr_cap (w : World) (c : Cp) : Cr (w.alloc (Obj.cells #[.int .i64 c.1, .int .u64 (c.2.1 : Int), .int .u64 (c.2.2 : Int)] 34)) 3 (some ⟨w.heap.size, 0, none⟩) 1 1 (caps [c]) :=
  ⟨rfl, fun h => (by cases h), fun x hx j u hu => by
    cases hx
    rw [addr_add0]
    have hj : j < 3 := (List.getElem?_eq_some_iff.1 hu).1
    have hm : j = 0 ∨ j = 1 ∨ j = 2 := by omega
    rcases hm with rfl | rfl | rfl
    · simp [caps, encC] at hu; rw [← hu]; simp [go_sem]
    · simp [caps, encC] at hu; rw [← hu]; simp [go_sem]
    · simp [caps, encC] at hu; rw [← hu]; simp [go_sem], caps_one _⟩
def CapsR (w : World) (E : List (Cp × Int)) (s t : Value) (w' : World) : Prop :=
  ∃ (i : Nat) (K : List Cp) (a : Option Addr) (cap : Nat), i ≤ E.length ∧ t = .int .i64 (i : Int) ∧ s = .slice a K.length cap ∧ K.Perm ((E.take i).map Prod.fst) ∧ K.Pairwise (fun x y => ¬ ltC y x) ∧ w'.ownsRow w.heap.size 34 3 (.slice a K.length cap) K.length (caps K) ∧ Below w.heap.size w w'
def CapsI (w : World) (K : List Cp) (d : Cp) (t : Value) (w' : World) : Prop :=
  ∃ j : Nat, j ≤ K.length ∧ t = .int .i64 (j : Int) ∧ (∀ (m : Nat) (c : Cp), m < j → K[m]? = some c → ltC c d) ∧ Below w.heap.size w w'
/-- Behind the document's Caps. -/
def RTold (w : World) (E : List (Cp × Int)) (e : Ending) (w' : World) : Prop :=
  ∃ (a : Option Addr) (cap : Nat), e = .returned (.slice a E.length cap) ∧ Rd w' a E.length (srt (E.map Prod.fst)) ∧ Below w.heap.size w w'
theorem rd_of {w : World} {base : Nat} {a : Option Addr} {n cap : Nat} {K : List Cp} (h : w.ownsRow base 34 3 (.slice a n cap) n (caps K)) : Rd w a n K := by
  have hl := h.1
  rw [caps_length] at hl
  refine ⟨by omega, fun h0 => ?_⟩
  rcases h.2 with ⟨h1, hn⟩ | ⟨g, c, cur, hv, _⟩
  · omega
  · simp only [Value.slice.injEq] at hv
    obtain ⟨rfl, _, rfl⟩ := hv
    have hc := ca_of h
    exact ⟨g, 0, rfl, fun i c hi => by rw [Nat.zero_add]; exact hc.at_ i c hi⟩
set_option maxRecDepth 100000 in
set_option maxHeartbeats 8000000 in
theorem rcaps_any {w : World} {g mo : Nat} {a0 : Option Addr} {cap : Nat} {E : List (Cp × Int)} (h : Rf w g mo a0 cap E) : Calls Try.prog 41 #[.pointer (some ⟨g, 0, none⟩)] w (RTold w E) := by
  have HH := hid h
  have hsm := h.small
  clear h
  go_enter Try.func41, Try.ntmps41
  go_wp2
  go_loopw [3, 4] (CapsR w E) (fun _ t _ => E.length - (intOf t).toNat)
  case atStart => exact ⟨0, [], none, 0, Nat.zero_le _, rfl, rfl, List.Perm.refl _, List.Pairwise.nil, ⟨rfl, .inl ⟨rfl, rfl⟩⟩, Below.refl _ _⟩
  case round =>
    obtain ⟨i, K, a, co, hi, rfl, rfl, hpe, hso, ho, hB⟩ := hrel
    have hR := HH.out.later hB
    have x1 := hR.c1.1
    have hKl : K.length = i := by rw [hpe.length_eq, List.length_map, List.length_take]; omega
    have hKs : K.length ≤ 512 := by omega
    have HPE := hid hpe
    have HOw := hid ho
    have HB := hid hB
    have HKl := hid hKl
    have HS := hid hso
    clear hpe ho hB hKl hso
    by_cases hlt : i < E.length
    · obtain ⟨d, hd⟩ : ∃ d, E[i]? = some d := ⟨_, List.getElem?_eq_getElem hlt⟩
      obtain ⟨b, rfl, hP⟩ := prs_at hR.own hd
      have HY := hid hd
      have HR := hid hR
      have HP := hid hP
      have hokd := hR.ok d.1 (List.mem_map.2 ⟨d, List.mem_of_getElem? hd, rfl⟩)
      have hokK : Hid (∀ (m : Nat) (c : Cp), K[m]? = some c → c.2.1 < B64 ∧ c.2.2 < B64) := hid (fun m c hc => hR.ok c (by
        have h1 := HPE.out.mem_iff.1 (List.mem_of_getElem? hc)
        obtain ⟨y, hy, rfl⟩ := List.mem_map.1 h1
        exact List.mem_map.2 ⟨y, List.mem_of_mem_take hy, rfl⟩))
      clear hd hR hP
      go_upto_region 6 with fail
      go_loopw [5] (CapsI wr K d.1) (fun t _ => K.length - (intOf t).toNat)
      case atStart => exact ⟨0, Nat.zero_le _, rfl, fun m c hm => absurd hm (Nat.not_lt_zero _), Below.refl _ _⟩
      case round =>
        obtain ⟨j, hj, rfl, hls, hBW⟩ := hrel
        have HJ := hid hj
        have HLS := hid hls
        have HBI := hid hBW
        clear hls hBW x1
        by_cases hjl : j < K.length
        · obtain ⟨c, hc⟩ : ∃ c, K[j]? = some c := ⟨_, List.getElem?_eq_getElem hjl⟩
          have hRI := HR.out.later HBI.out
          have hPI := HP.out.later HBI.out
          have hOI := own_but (S := fun _ => False) (But.of HBI.out) HOw.out (fun _ _ h => h)
          obtain ⟨bo, hbo⟩ : ∃ bo, a = some ⟨bo, 0, none⟩ := by
            rcases hOI.2 with ⟨h1, hn⟩ | ⟨g', c', cur, hv, _⟩
            · omega
            · simp only [Value.slice.injEq] at hv
              exact ⟨g', hv.1⟩
          subst hbo
          have hCI := (ca_of hOI).at_ _ _ hc
          have HC := hid hc
          have hle := fun W => less_any c d.1 W (hokK.out j c hc) hokd
          have hS : Hid (∀ U : World, Below wr.heap.size wr U → (U.cell? ⟨g, 1, none⟩ = some (.slice (some ⟨b, 0, none⟩) E.length cap) ∧ U.cell? ⟨b, i * 4, none⟩ = some (.int .i64 d.1.1) ∧ U.cell? ⟨b, i * 4 + 1, none⟩ = some (.int .u64 (d.1.2.1 : Int)) ∧ U.cell? ⟨b, i * 4 + 2, none⟩ = some (.int .u64 (d.1.2.2 : Int)) ∧ U.cell? ⟨bo, j * 3, none⟩ = some (.int .i64 c.1) ∧ U.cell? ⟨bo, j * 3 + 1, none⟩ = some (.int .u64 (c.2.1 : Int)) ∧ U.cell? ⟨bo, j * 3 + 2, none⟩ = some (.int .u64 (c.2.2 : Int))) ∧ Below wr.heap.size wr U) := fun U hU => ⟨⟨cell_later hU hRI.c1.1, cell_later hU hPI.c0, cell_later hU hPI.c1, cell_later hU hPI.c2, cell_later hU hCI.c0, cell_later hU hCI.c1, cell_later hU hCI.c2⟩, hU⟩
          obtain ⟨s1, s2, s3, s4, s5, s6, s7⟩ := (hS.out wr (Below.refl _ _)).1
          clear hRI hPI hOI hCI hc
          by_cases hl : ltC c d.1
          · have hdt : decide (ltC c d.1) = true := decide_eq_true hl
            rw [hdt] at hle
            have HL := hid hl
            clear hl hdt
            go_upto_region 6 with fail
            go_region_held3 (fun U => (U.cell? ⟨g, 1, none⟩ = some (.slice (some ⟨b, 0, none⟩) E.length cap) ∧ U.cell? ⟨b, i * 4, none⟩ = some (.int .i64 d.1.1) ∧ U.cell? ⟨b, i * 4 + 1, none⟩ = some (.int .u64 (d.1.2.1 : Int)) ∧ U.cell? ⟨b, i * 4 + 2, none⟩ = some (.int .u64 (d.1.2.2 : Int)) ∧ U.cell? ⟨bo, j * 3, none⟩ = some (.int .i64 c.1) ∧ U.cell? ⟨bo, j * 3 + 1, none⟩ = some (.int .u64 (c.2.1 : Int)) ∧ U.cell? ⟨bo, j * 3 + 2, none⟩ = some (.int .u64 (c.2.2 : Int))) ∧ Below wr.heap.size wr U) (first | exact hS.out _ hb8.out | exact hS.out _ (Below.refl _ _).drew) (first | (go_at_call 23; refine (hle _).mono ?_; rintro e w8 ⟨rfl, hb8'⟩; have hb8 := hid (below_call (Below.refl wr.heap.size wr).drew hb8')))
            go_wp2
            refine ⟨⟨j + 1, by omega, by go_num, fun m e hm he => ?_, below_call HBI.out hb8.out⟩, by simp [intOf]; omega⟩
            rcases Nat.lt_or_ge m j with h3 | h3
            · exact HLS.out m e h3 he
            · obtain rfl : m = j := by omega
              rw [HC.out] at he
              cases he
              exact HL.out
          · have hdt : decide (ltC c d.1) = false := decide_eq_false hl
            rw [hdt] at hle
            have HSO := hid (ins_sorted (d := d.1) (j := j) HS.out HLS.out (fun e he => by rw [HC.out] at he; cases he; exact hl))
            clear hl hdt
            go_upto_region 6 with fail
            go_region_held3 (fun U => (U.cell? ⟨g, 1, none⟩ = some (.slice (some ⟨b, 0, none⟩) E.length cap) ∧ U.cell? ⟨b, i * 4, none⟩ = some (.int .i64 d.1.1) ∧ U.cell? ⟨b, i * 4 + 1, none⟩ = some (.int .u64 (d.1.2.1 : Int)) ∧ U.cell? ⟨b, i * 4 + 2, none⟩ = some (.int .u64 (d.1.2.2 : Int)) ∧ U.cell? ⟨bo, j * 3, none⟩ = some (.int .i64 c.1) ∧ U.cell? ⟨bo, j * 3 + 1, none⟩ = some (.int .u64 (c.2.1 : Int)) ∧ U.cell? ⟨bo, j * 3 + 2, none⟩ = some (.int .u64 (c.2.2 : Int))) ∧ Below wr.heap.size wr U) (first | exact hS.out _ hb8.out | exact hS.out _ (Below.refl _ _).drew) (first | (go_at_call 23; refine (hle _).mono ?_; rintro e w5 ⟨rfl, hb8'⟩; have hb8 := hid (below_call (Below.refl wr.heap.size wr).drew hb8')))
            have HBW := hid (below_call HBI.out hb8.out)
            clear s1 s2 s3 s4 s5 s6 s7 hle hb8'
            go_upto_region 9 with fail
            have hOW := own_but (S := fun _ => False) (But.of HBW.out) HOw.out (fun _ _ h => h)
            have hRW := HR.out.later HBW.out
            have hct := cut_to (t := 43) und43 size_el43 hOW HJ.out w5
            have hcr := cr_to hOW (caps_one K) HJ.out
            obtain ⟨x, hcf, hcr2⟩ := cut_from (t := 43) und43 size_el43 hOW (caps_one K) HJ.out (li := (j : Int)) rfl
            obtain ⟨a1, c1, w6, hrun1, hO1, hG1⟩ := append_k 43 34 _ 3 24 Try.underlying43 info34 rfl (by decide) (by decide) (w := w5) (base := w5.heap.size) (a := none) (n := 0) (cap := 0) (L := []) ⟨rfl, .inl ⟨rfl, rfl⟩⟩ hcr (Nat.le_refl _) (by omega)
            have hB1 := below_nil hG1
            rw [Nat.zero_add] at hrun1 hO1
            have hBA := below_call hB1 (below1 w6 (Obj.cells #[.int .i64 d.1.1, .int .u64 (d.1.2.1 : Int), .int .u64 (d.1.2.2 : Int)] 34))
            have hOA := own_but (S := fun _ => False) (But.of (below1 w6 (Obj.cells #[.int .i64 d.1.1, .int .u64 (d.1.2.1 : Int), .int .u64 (d.1.2.2 : Int)] 34))) hO1 (fun _ _ h => h)
            obtain ⟨a2, c2, w7, hrun2, hO2, hG2⟩ := append_k 43 34 _ 3 24 Try.underlying43 info34 rfl (by decide) (by decide) hOA (cr_cap w6 d.1) hBA.size (by omega)
            have hB2 : Below w5.heap.size w5 w7 := hBA.trans (Gr.below' hG2 hOA hBA.size)
            have hct3 := hcf w7
            obtain ⟨a3, c3, w8, hrun3, hO3, hG3⟩ := append_k 43 34 _ 3 24 Try.underlying43 info34 rfl (by decide) (by decide) hO2 (hcr2.later hB2) hB2.size (by omega)
            have hB3 : Below w5.heap.size w5 w8 := hB2.trans (Gr.below' hG3 hO2 hB2.size)
            have hR6 := hRW.later hB1
            have z1 := hR6.c1.1
            obtain ⟨b6, hb6, hP6⟩ := prs_at hR6.own HY.out
            cases hb6
            obtain ⟨p0, p1, p2⟩ := (⟨hP6.c0, hP6.c1, hP6.c2⟩ : _ ∧ _ ∧ _)
            have el : (K.take j ++ [d.1] ++ K.drop j).length = j + 1 + (K.length - j) := by have := HJ.out; simp; omega
            have hfin : CapsR w E (.slice a3 (j + 1 + (K.length - j)) c3) (.int .i64 ((i : Int) + 1)) w8 := by
              refine ⟨i + 1, K.take j ++ [d.1] ++ K.drop j, a3, c3, by omega, by go_num, by rw [el], ?_, HSO.out, ?_, ?_⟩
              · rw [List.take_add_one, HY.out, List.map_append]
                refine List.Perm.trans (ins_perm K d.1 j) ?_
                exact (HPE.out.cons _).trans (List.perm_append_comm (l₁ := [d.1]))
              · rw [el, caps_append, caps_append, show caps (K.take j) = (caps K).take (j * 3) from cls_take encC_len K j HJ.out, show caps (K.drop j) = (caps K).drop (j * 3) from cls_drop encC_len K j HJ.out]
                have := own_mono hO3 (Nat.le_trans (Nat.le_trans HB.out.size HBW.out.size) (Nat.le_refl _))
                simpa using this
              · exact below_call (below_call HB.out HBW.out) hB3
            have HFIN := hid hfin
            have HRUN1 := hid hrun1
            have HRUN2 := hid hrun2
            have HRUN3 := hid hrun3
            clear hfin el hrun1 hrun2 hrun3 hO1 hG1 hB1 hBA hOA hO2 hG2 hB2 hO3 hG3 hB3 hR6 hP6 hOW hRW hcr hcf hcr2
            go_upto_region 10 with (first | (at_builtin; refine wpList_append_known rfl _ _ 43 rfl _ _ rfl rfl _ w6 HRUN1.out ?_))
            go_upto_region 11 with (first | (at_builtin; refine wpList_append_known rfl _ _ 43 rfl _ _ rfl rfl _ w7 HRUN2.out ?_))
            go_wp2_with (first | (at_builtin; refine wpList_append_known rfl _ _ 43 rfl _ _ rfl rfl _ w8 HRUN3.out ?_))
            exact ⟨HFIN.out, by simp [intOf]; omega⟩
        · have hjg : ¬ (j : Int) < (K.length : Int) := by omega
          have HSO := hid (ins_sorted (d := d.1) (j := j) HS.out HLS.out (fun e he => by rw [List.getElem?_eq_none (by omega)] at he; cases he))
          go_upto_region 6 with fail
          go_quiet (fail)
          have HBW := hid (below_call HBI.out (below_drewN (Below.refl wr.heap.size wr) nq))
          generalize wr.drewN nq = w5 at *
          go_upto_region 9 with fail
          have hOW := own_but (S := fun _ => False) (But.of HBW.out) HOw.out (fun _ _ h => h)
          have hRW := HR.out.later HBW.out
          have hct := cut_to (t := 43) und43 size_el43 hOW HJ.out w5
          have hcr := cr_to hOW (caps_one K) HJ.out
          obtain ⟨x, hcf, hcr2⟩ := cut_from (t := 43) und43 size_el43 hOW (caps_one K) HJ.out (li := (j : Int)) rfl
          obtain ⟨a1, c1, w6, hrun1, hO1, hG1⟩ := append_k 43 34 _ 3 24 Try.underlying43 info34 rfl (by decide) (by decide) (w := w5) (base := w5.heap.size) (a := none) (n := 0) (cap := 0) (L := []) ⟨rfl, .inl ⟨rfl, rfl⟩⟩ hcr (Nat.le_refl _) (by omega)
          have hB1 := below_nil hG1
          rw [Nat.zero_add] at hrun1 hO1
          have hBA := below_call hB1 (below1 w6 (Obj.cells #[.int .i64 d.1.1, .int .u64 (d.1.2.1 : Int), .int .u64 (d.1.2.2 : Int)] 34))
          have hOA := own_but (S := fun _ => False) (But.of (below1 w6 (Obj.cells #[.int .i64 d.1.1, .int .u64 (d.1.2.1 : Int), .int .u64 (d.1.2.2 : Int)] 34))) hO1 (fun _ _ h => h)
          obtain ⟨a2, c2, w7, hrun2, hO2, hG2⟩ := append_k 43 34 _ 3 24 Try.underlying43 info34 rfl (by decide) (by decide) hOA (cr_cap w6 d.1) hBA.size (by omega)
          have hB2 : Below w5.heap.size w5 w7 := hBA.trans (Gr.below' hG2 hOA hBA.size)
          have hct3 := hcf w7
          obtain ⟨a3, c3, w8, hrun3, hO3, hG3⟩ := append_k 43 34 _ 3 24 Try.underlying43 info34 rfl (by decide) (by decide) hO2 (hcr2.later hB2) hB2.size (by omega)
          have hB3 : Below w5.heap.size w5 w8 := hB2.trans (Gr.below' hG3 hO2 hB2.size)
          have hR6 := hRW.later hB1
          have z1 := hR6.c1.1
          obtain ⟨b6, hb6, hP6⟩ := prs_at hR6.own HY.out
          cases hb6
          obtain ⟨p0, p1, p2⟩ := (⟨hP6.c0, hP6.c1, hP6.c2⟩ : _ ∧ _ ∧ _)
          have el : (K.take j ++ [d.1] ++ K.drop j).length = j + 1 + (K.length - j) := by have := HJ.out; simp; omega
          have hfin : CapsR w E (.slice a3 (j + 1 + (K.length - j)) c3) (.int .i64 ((i : Int) + 1)) w8 := by
            refine ⟨i + 1, K.take j ++ [d.1] ++ K.drop j, a3, c3, by omega, by go_num, by rw [el], ?_, HSO.out, ?_, ?_⟩
            · rw [List.take_add_one, HY.out, List.map_append]
              refine List.Perm.trans (ins_perm K d.1 j) ?_
              exact (HPE.out.cons _).trans (List.perm_append_comm (l₁ := [d.1]))
            · rw [el, caps_append, caps_append, show caps (K.take j) = (caps K).take (j * 3) from cls_take encC_len K j HJ.out, show caps (K.drop j) = (caps K).drop (j * 3) from cls_drop encC_len K j HJ.out]
              have := own_mono hO3 (Nat.le_trans (Nat.le_trans HB.out.size HBW.out.size) (Nat.le_refl _))
              simpa using this
            · exact below_call (below_call HB.out HBW.out) hB3
          have HFIN := hid hfin
          have HRUN1 := hid hrun1
          have HRUN2 := hid hrun2
          have HRUN3 := hid hrun3
          clear hfin el hrun1 hrun2 hrun3 hO1 hG1 hB1 hBA hOA hO2 hG2 hB2 hO3 hG3 hB3 hR6 hP6 hOW hRW hcr hcf hcr2
          go_upto_region 10 with (first | (at_builtin; refine wpList_append_known rfl _ _ 43 rfl _ _ rfl rfl _ w6 HRUN1.out ?_))
          go_upto_region 11 with (first | (at_builtin; refine wpList_append_known rfl _ _ 43 rfl _ _ rfl rfl _ w7 HRUN2.out ?_))
          go_wp2_with (first | (at_builtin; refine wpList_append_known rfl _ _ 43 rfl _ _ rfl rfl _ w8 HRUN3.out ?_))
          exact ⟨HFIN.out, by simp [intOf]; omega⟩
    · obtain rfl : i = E.length := by omega
      clear hR
      have HKS := srt_unique HPE.out HS.out
      rw [List.take_length] at HKS
      have HRd := hid (rd_of HOw.out)
      rw [HKl.out, HKS] at HRd
      rw [HKl.out]
      go_wp2
      go_ret
      exact ⟨a, co, rfl, HRd.out, HB.out⟩
end Go.Proofs.Ytdkadmnhfnilkaa
