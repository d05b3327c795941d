import Derived.Test.YtcafmhlnfkgegaaB1
namespace Go.Proofs.Ytcafmhlnfkgegaa
open Go.RowKit
set_option linter.unusedSimpArgs false in
set_option maxRecDepth 100000 in
set_option maxHeartbeats 4000000 in
theorem back_walk (a0 b0 : Int) (N : Nat) (a : Option Addr) (len cap : Nat) (f : Nat → Nat) (news : List Value) (s : ByteArray) (w : World) (hs : s.size ≤ 9223372036854775807) (hN : IsV a0 b0 N) (hR : RowB w a len cap f news) :
    Calls Try.prog 4 #[.agg #[.int .u64 a0, .int .u64 b0], .slice a len cap, .string s] w fun e w' => e = .returned (.bool true) ∧ Below w.heap.size w w' := by
  have heq := eqlW
  have hne := neqW
  have hlt := hN.lt
  obtain ⟨t1, t2⟩ := text_parse hlt
  have hE : parseE (natsOf (strB (textL N))) = 0 := by unfold parseE; rw [t1]; rfl
  have HV : Hid (parseV (natsOf (strB (textL N))) = N) := by unfold Hid parseV; rw [t1]; exact t2
  have HB : Hid (valN (byteN N) 16 = N) := byteN_back hlt
  have hq : wEq a0 b0 a0 b0 = true := by rw [wEq_of hN hN]; simp
  have hb0 : Below w.heap.size w (w.alloc (.cells #[.int .u64 a0, .int .u64 b0] 24)) := below1 _ _
  have X0 : Box (w.alloc (.cells #[.int .u64 a0, .int .u64 b0] 24)) w.heap.size a0 b0 := Box.new _ _ _
  have hreach := hR.reach
  clear t1 t2 hlt
  go_enter Try.func4, Try.ntmps4
  go_upto_region 6 with (first | (go_at_call 12; refine (bytes_any _ _ _ _ hN).mono ?_; rintro e w1 ⟨g, rfl, hg0, hg, hb⟩; replace hb0 := below_call hb0 hb; replace X0 := X0.later hb; have hRR := hR.later hb0; obtain ⟨g', cap', w2, hrun, hcap, hcells, hgr⟩ := append_back w1 g N hg a len cap news hRR.none_ hRR.len_ hRR.cells hRR.one hRR.reach; have HC : Hid (∀ i, i < 16 → w2.cell? ⟨g', 0 + i, none⟩ = some (.int .u8 (byteN N i : Int))) := (fun i hi => by rw [Nat.zero_add]; exact hcells i hi); clear hcells hRR hb; have hgk : w.heap.size ≠ g := (by simp at hg0; omega); replace hb0 := below_grown hb0 hgr (by simp at hg0; omega); replace X0 := X0.grown hgr hgk; clear hg hg0 hgr hgk) | (at_builtin; refine wpList_append_known rfl (.tmp 21) (.tmp 22) 32 rfl _ _ rfl rfl _ _ hrun ?_) | (go_at_call 13; refine (of_any g' 0 _ cap' (byteN N) _ (by omega) hcap (byteN_lt N) HC.out).mono ?_; rintro e w3 ⟨c, d, rfl, hcd, hb⟩; rw [HB.out] at hcd; obtain ⟨rfl, rfl⟩ := hN.inj hcd; clear hcd; have Y := Box.new w3 a0 b0; replace hb0 := (below_call hb0 hb).alloc (below_call hb0 hb).size (Obj.cells #[Value.int IntKind.u64 a0, Value.int IntKind.u64 b0] 24); replace X0 := (X0.later hb).alloc (Obj.cells #[Value.int IntKind.u64 a0, Value.int IntKind.u64 b0] 24); clear hb hrun; have x0 := X0.1; have x1 := X0.2) | (go_at_call 15; refine (text_any _ _ _ _ hN).mono ?_; rintro e w4 ⟨rfl, hb⟩; replace hb0 := below_call hb0 hb; replace X0 := X0.later hb; replace Y := Y.later hb; clear hb; replace x0 := X0.1; replace x1 := X0.2) | (go_at_call 14; refine (parse_any _ _).mono ?_; rintro e w5 ⟨c, d, rfl, hcd, hb⟩; rw [HV.out] at hcd; obtain ⟨rfl, rfl⟩ := hN.inj hcd; clear hcd; have Z := Box.new w5 a0 b0; replace hb0 := (below_call hb0 hb).alloc (below_call hb0 hb).size (Obj.cells #[Value.int IntKind.u64 a0, Value.int IntKind.u64 b0] 24); replace X0 := (X0.later hb).alloc (Obj.cells #[Value.int IntKind.u64 a0, Value.int IntKind.u64 b0] 24); replace Y := (Y.later hb).alloc (Obj.cells #[Value.int IntKind.u64 a0, Value.int IntKind.u64 b0] 24); clear hb; replace x0 := X0.1; replace x1 := X0.2) | (go_at_call 8; refine (known_any _).mono ?_; rintro e w6 ⟨rfl, hb⟩; replace hb0 := below_call hb0 hb; replace X0 := X0.later hb; replace Y := Y.later hb; replace Z := Z.later hb; clear hb; replace x0 := X0.1; replace x1 := X0.2; have y0 := Y.1; have y1 := Y.2; have z0 := Z.1; have z1 := Z.2))
  have hRR := hR.later hb0
  clear X0 Y Z x0 x1 y0 y1 z0 z1 HC HB HV hE hq hcap hR
  go_cut [12, 13] (fun s t w' => ∃ (k : Nat) (c d : Int), s = .pointer (some ⟨k, 0, none⟩) ∧ Below w.heap.size w w' ∧ Box w' k c d ∧ RowB w' a len cap f news ∧ ((len < 16 ∧ t = .int .i64 17 ∧ c = 0 ∧ d = 0) ∨ (16 ≤ len ∧ t = .int .i64 0 ∧ IsV c d (valN f 16))))
  case first =>
    by_cases hl : len < 16
    · go_wp2_with (first | (go_at_call 13; refine (of_short _ _ _ _ hl).mono ?_; rintro e w7 ⟨rfl, hb⟩))
      go_meet
      case rel => exact ⟨_, 0, 0, rfl, Below.alloc (below_call hb0 hb) (below_call hb0 hb).size _, Box.new _ _ _, (hRR.later hb).later (below1 _ _), .inl ⟨hl, rfl, rfl, rfl⟩⟩
    · obtain ⟨b, o, ha, hc⟩ := hRR.plain (by omega)
      have HC : Hid (∀ i, i < 16 → w6.cell? ⟨b, o + i, none⟩ = some (.int .u8 (f i : Int))) := fun i hi => hc i (by omega)
      clear hc
      subst ha
      go_wp2_with (first | (go_at_call 13; refine (of_any b o _ _ f _ (by omega) hRR.cap_ hRR.small HC.out).mono ?_; rintro e w7 ⟨c, d, rfl, hcd, hb⟩))
      go_meet
      case rel => exact ⟨_, c, d, rfl, Below.alloc (below_call hb0 hb) (below_call hb0 hb).size _, Box.new _ _ _, (hRR.later hb).later (below1 _ _), .inr ⟨by omega, rfl, hcd⟩⟩
  case rest =>
    clear hb0 hRR
    obtain ⟨k, c, d, rfl, hb0, X0, hRR, hcase⟩ := hcut
    go_upto_region 7 with fail
    go_cut [90] (fun s w' => s = .bool false ∧ Below w.heap.size w w')
    case first =>
      have x0 := X0.1
      have x1 := X0.2
      rcases hcase with ⟨hl, rfl, rfl, rfl⟩ | ⟨hl, rfl, hcd⟩
      · have h1 : decide (16 ≤ (len : Int)) = false := by simp; omega
        have hq : wEq 0 0 0 0 = true := by decide
        go_quiet (fail)
        go_wp2_with fail
        go_meet
        case rel => exact ⟨rfl, below_drewN hb0 _⟩
      · obtain ⟨b, o, ha, hc⟩ := hRR.plain (by omega)
        have h1 : (16 : Int) ≤ (len : Int) := by omega
        have h2 : (16 : Int) ≤ (cap : Int) := by have := hRR.cap_; omega
        have hC : Hid (∀ w' : World, Below wc.heap.size wc w' → (w'.cell? ⟨k, 0, none⟩ = some (.int .u64 c) ∧ w'.cell? ⟨k, 1, none⟩ = some (.int .u64 d) ∧ (convert 32 9 (.slice (some ⟨b, o, none⟩) 16 cap)).run Try.prog w' = .ok (.string (strB (bytesOf (valN f 16)))) w') ∧ Below wc.heap.size wc w') := fun w' h => ⟨⟨cell_later h x0, cell_later h x1, conv_bytes w' b o cap (valN f 16) (fun i hi => by rw [byte_valN hRR.small 16 i hi]; exact cell_later h (hc i (by omega)))⟩, h⟩
        clear hc hRR
        subst ha
        refine wp_region_held_drew (S := fun w' => (w'.cell? ⟨k, 0, none⟩ = some (.int .u64 c) ∧ w'.cell? ⟨k, 1, none⟩ = some (.int .u64 d) ∧ (convert 32 9 (.slice (some ⟨b, o, none⟩) 16 cap)).run Try.prog w' = .ok (.string (strB (bytesOf (valN f 16)))) w') ∧ Below wc.heap.size wc w') (by kernel_rfl) ?_ (fun hHeld => ?_)
        · exact hC.out _ (Below.refl _ _).drew
        refine wpAnyH_take (i := 0) (oi := _) (v := ?_) rfl (by kernel_rfl) (by kernel_rfl) (by kernel_rfl) (fun _ _ _ h => h) (Or.inl ⟨by rfl, ?_⟩) (by assumption) ?_
        rotate_left
        · (intro w hSw; (try dsimp only at hSw); go_simp; try with_reducible rfl)
        simp only [List.getElem_toArray, List.getElem_cons_succ, List.getElem_cons_zero, Act.put, List.setIfInBounds_toArray, List.set_cons_zero, List.set_cons_succ]
        refine wpAnyH_take (i := 1) (oi := _) (v := ?_) rfl (by kernel_rfl) (by kernel_rfl) (by kernel_rfl) (fun _ _ _ h => h) (Or.inl ⟨by rfl, ?_⟩) (by assumption) ?_
        rotate_left
        · (intro w hSw; (try dsimp only at hSw); go_simp; try with_reducible rfl)
        simp only [List.getElem_toArray, List.getElem_cons_succ, List.getElem_cons_zero, Act.put, List.setIfInBounds_toArray, List.set_cons_zero, List.set_cons_succ]
        refine wpAnyH_take (i := 2) (oi := _) (v := ?_) rfl (by kernel_rfl) (by kernel_rfl) (by kernel_rfl) (fun _ _ _ h => h) (Or.inl ⟨by rfl, ?_⟩) (by assumption) ?_
        rotate_left
        · (intro w hSw; (try dsimp only at hSw); go_simp; try with_reducible rfl)
        simp only [List.getElem_toArray, List.getElem_cons_succ, List.getElem_cons_zero, Act.put, List.setIfInBounds_toArray, List.set_cons_zero, List.set_cons_succ]
        refine wpAnyH_take (i := 3) (oi := _) (v := ?_) rfl (by kernel_rfl) (by kernel_rfl) (by kernel_rfl) (fun _ _ _ h => h) (Or.inl ⟨by rfl, ?_⟩) (by assumption) ?_
        rotate_left
        · (intro w hSw; (try dsimp only at hSw); go_simp; try with_reducible rfl)
        simp only [List.getElem_toArray, List.getElem_cons_succ, List.getElem_cons_zero, Act.put, List.setIfInBounds_toArray, List.set_cons_zero, List.set_cons_succ]
        refine wpAnyH_take (i := 4) (oi := _) (v := ?_) rfl (by kernel_rfl) (by kernel_rfl) (by kernel_rfl) (fun _ _ _ h => h) (Or.inl ⟨by rfl, ?_⟩) (by assumption) ?_
        rotate_left
        · (intro w hSw; (try dsimp only at hSw); go_simp; try with_reducible rfl)
        simp only [List.getElem_toArray, List.getElem_cons_succ, List.getElem_cons_zero, Act.put, List.setIfInBounds_toArray, List.set_cons_zero, List.set_cons_succ]
        refine wpAnyH_take (i := 5) (oi := _) (v := ?_) rfl (by kernel_rfl) (by kernel_rfl) (by kernel_rfl) (fun _ _ _ h => h) (Or.inl ⟨by rfl, ?_⟩) (by assumption) ?_
        rotate_left
        · (intro w hSw; (try dsimp only at hSw); go_simp; try with_reducible rfl)
        simp only [List.getElem_toArray, List.getElem_cons_succ, List.getElem_cons_zero, Act.put, List.setIfInBounds_toArray, List.set_cons_zero, List.set_cons_succ]
        refine wpAnyH_take (i := 6) (oi := _) (v := ?_) rfl (by kernel_rfl) (by kernel_rfl) (by kernel_rfl) (fun _ _ _ h => h) (Or.inl ⟨by rfl, ?_⟩) (by assumption) ?_
        rotate_left
        · (intro w hSw; (try dsimp only at hSw); go_simp; try with_reducible rfl)
        simp only [List.getElem_toArray, List.getElem_cons_succ, List.getElem_cons_zero, Act.put, List.setIfInBounds_toArray, List.set_cons_zero, List.set_cons_succ]
        refine wpAnyH_take (i := 7) (oi := _) (v := ?_) rfl (by kernel_rfl) (by kernel_rfl) (by kernel_rfl) (fun _ _ _ h => h) (Or.inl ⟨by rfl, ?_⟩) (by assumption) ?_
        rotate_left
        · (intro w hSw; (try dsimp only at hSw); go_simp; try with_reducible rfl)
        simp only [List.getElem_toArray, List.getElem_cons_succ, List.getElem_cons_zero, Act.put, List.setIfInBounds_toArray, List.set_cons_zero, List.set_cons_succ]
        refine wpAnyH_take (i := 8) (oi := _) (v := ?_) rfl (by kernel_rfl) (by kernel_rfl) (by kernel_rfl) (fun _ _ _ h => h) (Or.inl ⟨by rfl, ?_⟩) (by assumption) ?_
        rotate_left
        · (intro w hSw; (try dsimp only at hSw); go_simp; try with_reducible rfl)
        simp only [List.getElem_toArray, List.getElem_cons_succ, List.getElem_cons_zero, Act.put, List.setIfInBounds_toArray, List.set_cons_zero, List.set_cons_succ]
        refine wpAnyH_take (i := 9) (oi := _) (v := ?_) rfl (by kernel_rfl) (by kernel_rfl) (by kernel_rfl) (fun _ _ _ h => h) (Or.inl ⟨by rfl, ?_⟩) (by assumption) ?_
        rotate_left
        · (intro w hSw; (try dsimp only at hSw); go_simp; try with_reducible rfl)
        simp only [List.getElem_toArray, List.getElem_cons_succ, List.getElem_cons_zero, Act.put, List.setIfInBounds_toArray, List.set_cons_zero, List.set_cons_succ]
        refine wpAnyH_take (i := 10) (oi := _) (v := ?_) rfl (by kernel_rfl) (by kernel_rfl) (by kernel_rfl) (fun _ _ _ h => h) (Or.inl ⟨by rfl, ?_⟩) (by assumption) ?_
        rotate_left
        · (intro w hSw; (try dsimp only at hSw); go_simp; try with_reducible rfl)
        simp only [List.getElem_toArray, List.getElem_cons_succ, List.getElem_cons_zero, Act.put, List.setIfInBounds_toArray, List.set_cons_zero, List.set_cons_succ]
        refine wpAnyH_take (i := 13) (oi := _) (v := ?_) rfl (by kernel_rfl) (by kernel_rfl) (by kernel_rfl) (fun _ _ _ h => h) (Or.inl ⟨by rfl, ?_⟩) (by assumption) ?_
        rotate_left
        · (intro w hSw; (try dsimp only at hSw); go_simp; try with_reducible rfl)
        simp only [List.getElem_toArray, List.getElem_cons_succ, List.getElem_cons_zero, Act.put, List.setIfInBounds_toArray, List.set_cons_zero, List.set_cons_succ]
        refine wpAnyH_take (i := 14) (oi := _) (v := ?_) rfl (by kernel_rfl) (by kernel_rfl) (by kernel_rfl) (fun _ _ _ h => h) (Or.inl ⟨by rfl, ?_⟩) (by assumption) ?_
        rotate_left
        · (intro w hSw; (try dsimp only at hSw); go_simp; try with_reducible rfl)
        simp only [List.getElem_toArray, List.getElem_cons_succ, List.getElem_cons_zero, Act.put, List.setIfInBounds_toArray, List.set_cons_zero, List.set_cons_succ]
        refine wpAnyH_take (i := 15) (oi := _) (v := ?_) rfl (by kernel_rfl) (by kernel_rfl) (by kernel_rfl) (fun _ _ _ h => h) (Or.inl ⟨by rfl, ?_⟩) (by assumption) ?_
        rotate_left
        · (intro w hSw; (try dsimp only at hSw); go_simp; try with_reducible rfl)
        simp only [List.getElem_toArray, List.getElem_cons_succ, List.getElem_cons_zero, Act.put, List.setIfInBounds_toArray, List.set_cons_zero, List.set_cons_succ]
        refine wpAnyH_ready (rs := [11]) (by kernel_rfl) (by simp) ?_
        refine AllReadyH.cons rfl (fun K hK => ?_) AllReadyH.nil
        go_simp
        go_wp2_with (first | (go_at_call 12; refine (bytes_any _ _ _ _ hcd).mono ?_; rintro e w8 ⟨g2, rfl, hg0, hg, hb⟩; have hcv := conv_bytes w8 g2 0 16 (valN f 16) (fun i hi => by rw [Nat.zero_add]; exact cell_bytes hg i hi); clear hg))
        refine hK.out _ _ ?_ (fun hHeld => ?_)
        · (first | exact hC.out _ (Below.refl _ _).drew | assumption | exact hC.out _ (keep_call hb (Nat.le_refl _) (by assumption)))
        clear hK K
        refine wpAnyH_ready (rs := [12]) (by kernel_rfl) (by simp) ?_
        refine AllReadyH.cons rfl (fun K hK => ?_) AllReadyH.nil
        go_simp
        refine hK.out _ _ ?_ (fun hHeld => ?_)
        · (first | exact hC.out _ (Below.refl _ _).drew | assumption | exact hC.out _ (keep_call hb (Nat.le_refl _) (by assumption)))
        clear hK K
        refine wpAnyH_take (i := 16) (oi := _) (v := ?_) rfl (by kernel_rfl) (by kernel_rfl) (by kernel_rfl) (fun _ _ _ h => h) (Or.inl ⟨by rfl, ?_⟩) (by assumption) ?_
        rotate_left
        · (intro w hSw; (try dsimp only at hSw); go_simp; try with_reducible rfl)
        simp only [List.getElem_toArray, List.getElem_cons_succ, List.getElem_cons_zero, Act.put, List.setIfInBounds_toArray, List.set_cons_zero, List.set_cons_succ]
        refine wpAnyH_take (i := 17) (oi := _) (v := ?_) rfl (by kernel_rfl) (by kernel_rfl) (by kernel_rfl) (fun _ _ _ h => h) (Or.inl ⟨by rfl, ?_⟩) (by assumption) ?_
        rotate_left
        · (intro w hSw; (try dsimp only at hSw); go_simp; try with_reducible rfl)
        simp only [List.getElem_toArray, List.getElem_cons_succ, List.getElem_cons_zero, Act.put, List.setIfInBounds_toArray, List.set_cons_zero, List.set_cons_succ]
        refine wpAnyH_take (i := 18) (oi := _) (v := ?_) rfl (by kernel_rfl) (by kernel_rfl) (by kernel_rfl) (fun _ _ _ h => h) (Or.inl ⟨by rfl, ?_⟩) (by assumption) ?_
        rotate_left
        · (intro w hSw; (try dsimp only at hSw); go_simp; try with_reducible rfl)
        simp only [List.getElem_toArray, List.getElem_cons_succ, List.getElem_cons_zero, Act.put, List.setIfInBounds_toArray, List.set_cons_zero, List.set_cons_succ]
        refine wpAnyH_take (i := 19) (oi := _) (v := ?_) rfl (by kernel_rfl) (by kernel_rfl) (by kernel_rfl) (fun _ _ _ h => h) (Or.inl ⟨by rfl, ?_⟩) (by assumption) ?_
        rotate_left
        · (intro w hSw; (try dsimp only at hSw); go_simp; try with_reducible rfl)
        simp only [List.getElem_toArray, List.getElem_cons_succ, List.getElem_cons_zero, Act.put, List.setIfInBounds_toArray, List.set_cons_zero, List.set_cons_succ]
        refine wpAnyH_take (i := 20) (oi := _) (v := ?_) rfl (by kernel_rfl) (by kernel_rfl) (by kernel_rfl) (fun _ _ _ h => h) (Or.inl ⟨by rfl, ?_⟩) (by assumption) ?_
        rotate_left
        · (intro w hSw; (try dsimp only at hSw); go_simp; try with_reducible rfl)
        simp only [List.getElem_toArray, List.getElem_cons_succ, List.getElem_cons_zero, Act.put, List.setIfInBounds_toArray, List.set_cons_zero, List.set_cons_succ]
        refine wpAnyH_take (i := 21) (oi := _) (v := ?_) rfl (by kernel_rfl) (by kernel_rfl) (by kernel_rfl) (fun _ _ _ h => h) (Or.inl ⟨by rfl, ?_⟩) (by assumption) ?_
        rotate_left
        · (intro w hSw; (try dsimp only at hSw); go_simp; try with_reducible rfl)
        simp only [List.getElem_toArray, List.getElem_cons_succ, List.getElem_cons_zero, Act.put, List.setIfInBounds_toArray, List.set_cons_zero, List.set_cons_succ]
        refine wpAnyH_take (i := 22) (oi := _) (v := ?_) rfl (by kernel_rfl) (by kernel_rfl) (by kernel_rfl) (fun _ _ _ h => h) (Or.inl ⟨by rfl, ?_⟩) (by assumption) ?_
        rotate_left
        · (intro w hSw; (try dsimp only at hSw); go_simp; try with_reducible rfl)
        simp only [List.getElem_toArray, List.getElem_cons_succ, List.getElem_cons_zero, Act.put, List.setIfInBounds_toArray, List.set_cons_zero, List.set_cons_succ]
        refine wpAnyH_take (i := 23) (oi := _) (v := undef) rfl (by kernel_rfl) (by kernel_rfl) (by kernel_rfl) (fun _ _ _ h => h) (Or.inr ⟨by rfl, rfl⟩) (by assumption) ?_
        simp only [List.getElem_toArray, List.getElem_cons_succ, List.getElem_cons_zero, Act.put, List.setIfInBounds_toArray, List.set_cons_zero, List.set_cons_succ]
        refine wpAnyH_take (i := 24) (oi := _) (v := undef) rfl (by kernel_rfl) (by kernel_rfl) (by kernel_rfl) (fun _ _ _ h => h) (Or.inr ⟨by rfl, rfl⟩) (by assumption) ?_
        simp only [List.getElem_toArray, List.getElem_cons_succ, List.getElem_cons_zero, Act.put, List.setIfInBounds_toArray, List.set_cons_zero, List.set_cons_succ]
        refine wpAnyH_take (i := 25) (oi := _) (v := undef) rfl (by kernel_rfl) (by kernel_rfl) (by kernel_rfl) (fun _ _ _ h => h) (Or.inr ⟨by rfl, rfl⟩) (by assumption) ?_
        simp only [List.getElem_toArray, List.getElem_cons_succ, List.getElem_cons_zero, Act.put, List.setIfInBounds_toArray, List.set_cons_zero, List.set_cons_succ]
        refine wpAnyH_take (i := 26) (oi := _) (v := ?_) rfl (by kernel_rfl) (by kernel_rfl) (by kernel_rfl) (fun _ _ _ h => h) (Or.inl ⟨by rfl, ?_⟩) (by assumption) ?_
        rotate_left
        · (intro w hSw; (try dsimp only at hSw); go_simp; try with_reducible rfl)
        simp only [List.getElem_toArray, List.getElem_cons_succ, List.getElem_cons_zero, Act.put, List.setIfInBounds_toArray, List.set_cons_zero, List.set_cons_succ]
        refine wpAnyH_take (i := 27) (oi := _) (v := ?_) rfl (by kernel_rfl) (by kernel_rfl) (by kernel_rfl) (fun _ _ _ h => h) (Or.inl ⟨by rfl, ?_⟩) (by assumption) ?_
        rotate_left
        · (intro w hSw; (try dsimp only at hSw); go_simp; try with_reducible rfl)
        simp only [List.getElem_toArray, List.getElem_cons_succ, List.getElem_cons_zero, Act.put, List.setIfInBounds_toArray, List.set_cons_zero, List.set_cons_succ]
        refine wpAnyH_done (by kernel_rfl) ?_ _
        go_wp2_with fail
        go_meet
        case rel => exact ⟨rfl, below_call hb0 hHeld.2⟩
    case rest =>
      clear hb0 X0 hRR hcase
      obtain ⟨rfl, hb0⟩ := hcut
      go_upto_region 9 with fail
      go_cut [14] (fun r w' => r = .bool (headB s) ∧ wc = w')
      case first =>
        by_cases h1 : s.size < 1
        · have hv : Hid (headB s = false) := by unfold Hid headB; rw [decide_eq_false (p := 1 ≤ s.size ∧ s.size ≤ 32) (by omega)]; rfl
          have hd1 : decide (1 ≤ (s.size : Int)) = false := by simp; omega
          go_wp2
          go_meet
          case rel => exact ⟨by rw [hv.out], rfl⟩
        · have hd1 : decide (1 ≤ (s.size : Int)) = true := by simp; omega
          by_cases h2 : s.size ≤ 32
          · have hd2 : decide ((s.size : Int) ≤ 32) = true := by simp; omega
            have h0 : 0 < s.size := by omega
            by_cases h3 : s[0].toNat = 48
            · have hd3 : ((s[0].toNat : Int) != 48) = false := by simp; omega
              have hg := natsOf_get s 0 h0
              have hv : Hid (headB s = ((s.size : Int) == 1)) := by
                unfold Hid headB
                rw [decide_eq_true (show 1 ≤ s.size ∧ s.size ≤ 32 by omega), hg, h3, Bool.true_and]
                have : (!decide (some 48 = some 48)) = false := by decide
                rw [this, Bool.or_false]
                rw [Bool.eq_iff_iff]; simp; omega
              clear hg h3
              go_wp2
              go_meet
              case rel => exact ⟨by rw [hv.out], rfl⟩
            · have hd3 : ((s[0].toNat : Int) != 48) = true := by simp; omega
              have hv : Hid (headB s = true) := by
                unfold Hid headB
                rw [decide_eq_true (show 1 ≤ s.size ∧ s.size ≤ 32 by omega), natsOf_get s 0 h0, decide_eq_false (p := some s[0].toNat = some 48) (by simpa using h3)]
                simp
              clear h3
              go_wp2
              go_meet
              case rel => exact ⟨by rw [hv.out], rfl⟩
          · have hd2 : decide ((s.size : Int) ≤ 32) = false := by simp; omega
            have hv : Hid (headB s = false) := by unfold Hid headB; rw [decide_eq_false (p := 1 ≤ s.size ∧ s.size ≤ 32) (by omega)]; rfl
            go_wp2
            go_meet
            case rel => exact ⟨by rw [hv.out], rfl⟩
      case rest =>
        obtain ⟨rfl, rfl⟩ := hcut
        go_wp2_with fail
        go_loop [14, 15] (fun r i => ∃ k2 : Nat, k2 ≤ s.size ∧ i = .int .i64 k2 ∧ r = .bool (rightB s k2)) (fun _ i => s.size - (intOf i).toNat)
        case atStart => exact ⟨0, by omega, rfl, by rw [right_zero]⟩
        case round =>
          obtain ⟨k2, hk2, rfl, rfl⟩ := hrel
          by_cases hl2 : k2 < s.size
          · have hn := right_next s k2 hl2
            have HN0 : Hid (rightB s (k2 + 1) = (rightB s k2 && isHex s[k2].toNat)) := hn
            clear hn
            cases hr : rightB s k2 with
            | false =>
              have HN : Hid (rightB s (k2 + 1) = false) := by unfold Hid; rw [HN0.out, hr]; rfl
              clear HN0
              go_wp2
              exact ⟨⟨k2 + 1, by omega, by go_num, by rw [HN.out]⟩, by simp [intOf]; omega⟩
            | true =>
              have HN1 : Hid (rightB s (k2 + 1) = isHex s[k2].toNat) := by unfold Hid; rw [HN0.out, hr]; rfl
              clear HN0
              by_cases c1 : 48 ≤ s[k2].toNat
              · have d1 : decide (48 ≤ (s[k2].toNat : Int)) = true := by simp; omega
                by_cases c2 : s[k2].toNat ≤ 57
                · have d2 : decide ((s[k2].toNat : Int) ≤ 57) = true := by simp; omega
                  have HN : Hid (rightB s (k2 + 1) = true) := by unfold Hid; rw [HN1.out]; unfold isHex; rw [decide_eq_true (show 48 ≤ s[k2].toNat ∧ s[k2].toNat ≤ 57 from ⟨c1, c2⟩)]; rfl
                  clear HN1 c1 c2
                  go_wp2
                  exact ⟨⟨k2 + 1, by omega, by go_num, by rw [HN.out]⟩, by simp [intOf]; omega⟩
                · have d2 : decide ((s[k2].toNat : Int) ≤ 57) = false := by simp; omega
                  by_cases c3 : 97 ≤ s[k2].toNat
                  · have d3 : decide (97 ≤ (s[k2].toNat : Int)) = true := by simp; omega
                    by_cases c4 : s[k2].toNat ≤ 102
                    · have d4 : decide ((s[k2].toNat : Int) ≤ 102) = true := by simp; omega
                      have HN : Hid (rightB s (k2 + 1) = true) := by unfold Hid; rw [HN1.out]; unfold isHex; rw [decide_eq_true (show 97 ≤ s[k2].toNat ∧ s[k2].toNat ≤ 102 from ⟨c3, c4⟩), Bool.or_true]
                      clear HN1 c1 c2 c3 c4
                      go_wp2
                      exact ⟨⟨k2 + 1, by omega, by go_num, by rw [HN.out]⟩, by simp [intOf]; omega⟩
                    · have d4 : decide ((s[k2].toNat : Int) ≤ 102) = false := by simp; omega
                      have HN : Hid (rightB s (k2 + 1) = false) := by unfold Hid; rw [HN1.out]; unfold isHex; rw [decide_eq_false (p := 48 ≤ s[k2].toNat ∧ s[k2].toNat ≤ 57) (by omega), decide_eq_false (p := 97 ≤ s[k2].toNat ∧ s[k2].toNat ≤ 102) (by omega)]; rfl
                      clear HN1 c1 c2 c3 c4
                      go_wp2
                      exact ⟨⟨k2 + 1, by omega, by go_num, by rw [HN.out]⟩, by simp [intOf]; omega⟩
                  · have d3 : decide (97 ≤ (s[k2].toNat : Int)) = false := by simp; omega
                    have HN : Hid (rightB s (k2 + 1) = false) := by unfold Hid; rw [HN1.out]; unfold isHex; rw [decide_eq_false (p := 48 ≤ s[k2].toNat ∧ s[k2].toNat ≤ 57) (by omega), decide_eq_false (p := 97 ≤ s[k2].toNat ∧ s[k2].toNat ≤ 102) (by omega)]; rfl
                    clear HN1 c1 c2 c3
                    go_wp2
                    exact ⟨⟨k2 + 1, by omega, by go_num, by rw [HN.out]⟩, by simp [intOf]; omega⟩
              · have d1 : decide (48 ≤ (s[k2].toNat : Int)) = false := by simp; omega
                have d3 : decide (97 ≤ (s[k2].toNat : Int)) = false := by simp; omega
                have HN : Hid (rightB s (k2 + 1) = false) := by unfold Hid; rw [HN1.out]; unfold isHex; rw [decide_eq_false (p := 48 ≤ s[k2].toNat ∧ s[k2].toNat ≤ 57) (by omega), decide_eq_false (p := 97 ≤ s[k2].toNat ∧ s[k2].toNat ≤ 102) (by omega)]; rfl
                clear HN1 c1
                go_wp2
                exact ⟨⟨k2 + 1, by omega, by go_num, by rw [HN.out]⟩, by simp [intOf]; omega⟩
          · have hra := right_all s k2 hl2
            cases hp : parseOk (natsOf s) with
            | true =>
              rw [hp] at hra
              have hE : parseE (natsOf s) = 0 := by unfold parseE; rw [hp]; rfl
              have HV : Hid (parseV (natsOf s) = hexVal (natsOf s)) := by unfold Hid parseV; rw [hp]; rfl
              have hT : strB (textL (hexVal (natsOf s))) = s := parse_text hp
              clear hp
              go_wp2_with (first | (go_at_call 14; refine (parse_any _ _).mono ?_; rintro e w9 ⟨c9, d9, rfl, hcd9, hb⟩; rw [HV.out] at hcd9; replace hb0 := (below_call hb0 hb).alloc (below_call hb0 hb).size (Obj.cells #[Value.int IntKind.u64 c9, Value.int IntKind.u64 d9] 24); clear hb) | (go_at_call 15; refine (text_any _ _ _ _ hcd9).mono ?_; rintro e w10 ⟨rfl, hb⟩; replace hb0 := below_call hb0 hb; clear hb))
              go_ret
              exact ⟨rfl, hb0⟩
            | false =>
              rw [hp] at hra
              have hE : parseE (natsOf s) = 22 := by unfold parseE; rw [hp]; rfl
              have HV : Hid (parseV (natsOf s) = 0) := by unfold Hid parseV; rw [hp]; rfl
              have hq : wEq 0 0 0 0 = true := by decide
              clear hp
              go_wp2_with (first | (go_at_call 14; refine (parse_any _ _).mono ?_; rintro e w9 ⟨c9, d9, rfl, hcd9, hb⟩; rw [HV.out] at hcd9; obtain ⟨rfl, rfl⟩ := hcd9.inj IsV.zero; replace hb0 := (below_call hb0 hb).alloc (below_call hb0 hb).size (Obj.cells #[Value.int IntKind.u64 0, Value.int IntKind.u64 0] 24); clear hb))
              go_ret
              exact ⟨rfl, hb0⟩
end Go.Proofs.Ytcafmhlnfkgegaa
