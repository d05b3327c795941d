import Derived.Test.YtcafmhlnfkgegaaWA
import Derived.Test.YtcafmhlnfkgegaaM2
import Derived.Deep.DeepCutAuto
namespace Go.Proofs.Ytcafmhlnfkgegaa
open Go.RowKit

/-- A word lies in the block k. -/
def Box (w : World) (k : Nat) (a b : Int) : Prop := w.cell? ⟨k, 0, none⟩ = some (.int .u64 a) ∧ w.cell? ⟨k, 1, none⟩ = some (.int .u64 b)
theorem Box.later {W w1 : World} {k : Nat} {a b : Int} (hb : Below W.heap.size W w1) (h : Box W k a b) : Box w1 k a b := ⟨cell_later hb h.1, cell_later hb h.2⟩
theorem Box.new (w : World) (a b : Int) : Box (w.alloc (.cells #[.int .u64 a, .int .u64 b] 24)) w.heap.size a b := ⟨by simp [go_sem], by simp [go_sem]⟩
theorem Box.alloc {w : World} {k : Nat} {a b : Int} (h : Box w k a b) (o : Obj) : Box (w.alloc o) k a b := h.later (below1 _ _)
theorem Box.drew {w : World} {k : Nat} {a b : Int} (h : Box w k a b) : Box w.drew k a b := h

theorem less_iff {a b c d : Int} {N M : Nat} (h : IsV a b N) (k : IsV c d M) : N < M ↔ a < c ∨ a = c ∧ b < d := by
  obtain ⟨a, b, rfl, rfl, h⟩ := h
  obtain ⟨c, d, rfl, rfl, k⟩ := k
  have := h.lt_iff k
  omega

def ltB (A B : Nat) : Bool := decide (A < B)
theorem cmp_lt {A B : Nat} (h : ltB A B = true) : cmpI A B = -1 := by
  have h := of_decide_eq_true h
  unfold cmpI; rw [if_neg (by omega), if_pos h]
theorem cmp_gt {A B : Nat} {q : Bool} (he : q = decide (A = B)) (h : ltB A B = false) (h2 : (!q) = true) : cmpI A B = 1 := by
  have h := of_decide_eq_false h
  have h3 : ¬ A = B := by subst he; simpa using h2
  unfold cmpI; rw [if_neg h3, if_neg h]
theorem cmp_eq {A B : Nat} {q : Bool} (he : q = decide (A = B)) (h2 : (!q) = false) : cmpI A B = 0 := by
  have h3 : A = B := by subst he; simpa using h2
  unfold cmpI; rw [if_pos h3]

theorem wrap_half {c d : Int} {N : Nat} (h : IsV c d N) : IntKind.u64.wrap c = c := by
  obtain ⟨x, y, rfl, rfl, h⟩ := h
  have := h.ha
  rw [IntKind.wrap_u64]
  unfold B64 at this
  omega
theorem cmp_bd (A B : Nat) : -1 ≤ cmpI A B ∧ cmpI A B ≤ 1 := by unfold cmpI; split <;> (try split) <;> omega
theorem cmp_neg (A B : Nat) : cmpI B A = -cmpI A B := by unfold cmpI; split <;> split <;> (try split) <;> omega
theorem cmp_le {A B : Nat} : cmpI A B ≤ 0 ↔ A ≤ B := by unfold cmpI; split <;> (try split) <;> omega

set_option maxRecDepth 100000 in
set_option maxHeartbeats 1000000 in
theorem order_walk (a0 b0 a1 b1 a2 b2 width : Int) (A B C : Nat) (w : World) (hA : IsV a0 b0 A) (hB : IsV a1 b1 B) (hC : IsV a2 b2 C) :
    Calls Try.prog 3 #[.agg #[.int .u64 a0, .int .u64 b0], .agg #[.int .u64 a1, .int .u64 b1], .agg #[.int .u64 a2, .int .u64 b2], .int .i64 width] w fun e w' => e = .returned (.bool true) ∧ Below w.heap.size w w' := by
  have heq := eqlW
  have hne := neqW
  have hl := less_iff hA hB
  have he := wEq_of hA hB
  have HL : Hid (A < B ↔ a0 < a1 ∨ a0 = a1 ∧ b0 < b1) := hl
  have HE : Hid (wEq a0 b0 a1 b1 = decide (A = B)) := he
  have hb0 : Below w.heap.size w (((w.alloc (.cells #[.int .u64 a0, .int .u64 b0] 24)).alloc (.cells #[.int .u64 a1, .int .u64 b1] 24)).alloc (.cells #[.int .u64 a2, .int .u64 b2] 24)) := (below2 _ _ _).alloc (by simp; omega) _
  have X0 : Box (((w.alloc (.cells #[.int .u64 a0, .int .u64 b0] 24)).alloc (.cells #[.int .u64 a1, .int .u64 b1] 24)).alloc (.cells #[.int .u64 a2, .int .u64 b2] 24)) w.heap.size a0 b0 := ((Box.new _ _ _).alloc _).alloc _
  have X1 : Box (((w.alloc (.cells #[.int .u64 a0, .int .u64 b0] 24)).alloc (.cells #[.int .u64 a1, .int .u64 b1] 24)).alloc (.cells #[.int .u64 a2, .int .u64 b2] 24)) (w.heap.size + 1) a1 b1 := by
    have := (Box.new (w.alloc (.cells #[.int .u64 a0, .int .u64 b0] 24)) a1 b1).alloc (.cells #[.int .u64 a2, .int .u64 b2] 24)
    simpa using this
  have X2 : Box (((w.alloc (.cells #[.int .u64 a0, .int .u64 b0] 24)).alloc (.cells #[.int .u64 a1, .int .u64 b1] 24)).alloc (.cells #[.int .u64 a2, .int .u64 b2] 24)) (w.heap.size + 1 + 1) a2 b2 := by
    have := Box.new ((w.alloc (.cells #[.int .u64 a0, .int .u64 b0] 24)).alloc (.cells #[.int .u64 a1, .int .u64 b1] 24)) a2 b2
    simpa using this
  clear hl he
  go_enter Try.func3, Try.ntmps3
  go_upto_region 3 with (first | (go_at_call 7; refine (cmp_any _ _ _ _ _ _ _ hA hB).mono ?_; rintro e w1 ⟨rfl, hb1⟩; replace hb0 := below_call hb0 hb1; replace X0 := X0.later hb1; replace X1 := X1.later hb1; replace X2 := X2.later hb1; clear hb1))
  go_cut [40] (fun s w' => s = .bool (ltB A B) ∧ w1 = w')
  case first =>
    obtain ⟨x0, x1⟩ := X0
    obtain ⟨y0, y1⟩ := X1
    by_cases h1 : a0 < a1
    · have hv : Hid (ltB A B = true) := decide_eq_true (HL.out.2 (.inl h1))
      go_wp2
      go_meet
      case rel => exact ⟨by rw [hv.out], rfl⟩
    · by_cases h2 : a0 = a1
      · have h2' : (a0 == a1) = true := by simpa using h2
        by_cases h3 : b0 < b1
        · have hv : Hid (ltB A B = true) := decide_eq_true (HL.out.2 (.inr ⟨h2, h3⟩))
          clear h2
          go_wp2
          go_meet
          case rel => exact ⟨by rw [hv.out], rfl⟩
        · have hv : Hid (ltB A B = false) := decide_eq_false (fun e => by have := HL.out.1 e; omega)
          clear h2
          go_wp2
          go_meet
          case rel => exact ⟨by rw [hv.out], rfl⟩
      · have h2' : (a0 == a1) = false := by simpa using h2
        have hv : Hid (ltB A B = false) := decide_eq_false (fun e => by have := HL.out.1 e; omega)
        clear h2
        go_wp2
        go_meet
        case rel => exact ⟨by rw [hv.out], rfl⟩
  case rest =>
    obtain ⟨rfl, rfl⟩ := hcut
    go_upto_if 40 with fail
    go_cut [10] (fun s w' => s = .int .i64 (cmpI A B) ∧ w1 = w')
    case first =>
      obtain ⟨x0, x1⟩ := X0
      obtain ⟨y0, y1⟩ := X1
      go_wp2
      · go_meet
        case rel => exact ⟨by rw [cmp_lt ‹ltB A B = true›], rfl⟩
      · go_meet
        case rel => exact ⟨by rw [cmp_gt HE.out ‹_› ‹_›], rfl⟩
      · go_meet
        case rel => exact ⟨by rw [cmp_eq HE.out ‹_›], rfl⟩
    case rest =>
      obtain ⟨rfl, rfl⟩ := hcut
      go_upto_region 7 with fail
      go_cut [74] (fun s w' => s = .bool false ∧ Below w.heap.size w w' ∧ Box w' w.heap.size a0 b0)
      case first =>
        obtain ⟨q1, q2⟩ := cmp_bd A B
        have hsym : (cmpI B A != -cmpI A B) = false := by rw [cmp_neg A B]; simp
        by_cases p1 : cmpI A B ≤ 0
        · by_cases p2 : cmpI B C ≤ 0
          · have p3 : ¬ 0 < cmpI A C := by have := cmp_le.1 p1; have := cmp_le.1 p2; have := (cmp_le (A := A) (B := C)).2 (by omega); omega
            go_wp2_with (first | (go_at_call 8; refine (known_any _).mono ?_; rintro e w2 ⟨rfl, hb⟩; replace hb0 := below_call hb0 hb; replace X0 := X0.later hb; replace X1 := X1.later hb; replace X2 := X2.later hb; clear hb; have x0 := X0.1; have x1 := X0.2; have y0 := X1.1; have y1 := X1.2; have z0 := X2.1; have z1 := X2.2) | (go_at_call 7; refine (cmp_any _ _ _ _ _ _ _ (by assumption) (by assumption)).mono ?_; rintro e w2 ⟨rfl, hb⟩; replace hb0 := below_call hb0 hb; replace X0 := X0.later hb; replace X1 := X1.later hb; replace X2 := X2.later hb; clear hb; have x0 := X0.1; have x1 := X0.2; have y0 := X1.1; have y1 := X1.2; have z0 := X2.1; have z1 := X2.2))
            go_meet
            case rel => exact ⟨by rw [decide_eq_false (by omega)], hb0, X0⟩
          · go_wp2_with (first | (go_at_call 8; refine (known_any _).mono ?_; rintro e w2 ⟨rfl, hb⟩; replace hb0 := below_call hb0 hb; replace X0 := X0.later hb; replace X1 := X1.later hb; replace X2 := X2.later hb; clear hb; have x0 := X0.1; have x1 := X0.2; have y0 := X1.1; have y1 := X1.2; have z0 := X2.1; have z1 := X2.2) | (go_at_call 7; refine (cmp_any _ _ _ _ _ _ _ (by assumption) (by assumption)).mono ?_; rintro e w2 ⟨rfl, hb⟩; replace hb0 := below_call hb0 hb; replace X0 := X0.later hb; replace X1 := X1.later hb; replace X2 := X2.later hb; clear hb; have x0 := X0.1; have x1 := X0.2; have y0 := X1.1; have y1 := X1.2; have z0 := X2.1; have z1 := X2.2))
            go_meet
            case rel => exact ⟨rfl, hb0, X0⟩
        · go_wp2_with (first | (go_at_call 8; refine (known_any _).mono ?_; rintro e w2 ⟨rfl, hb⟩; replace hb0 := below_call hb0 hb; replace X0 := X0.later hb; replace X1 := X1.later hb; replace X2 := X2.later hb; clear hb; have x0 := X0.1; have x1 := X0.2; have y0 := X1.1; have y1 := X1.2; have z0 := X2.1; have z1 := X2.2) | (go_at_call 7; refine (cmp_any _ _ _ _ _ _ _ (by assumption) (by assumption)).mono ?_; rintro e w2 ⟨rfl, hb⟩; replace hb0 := below_call hb0 hb; replace X0 := X0.later hb; replace X1 := X1.later hb; replace X2 := X2.later hb; clear hb; have x0 := X0.1; have x1 := X0.2; have y0 := X1.1; have y1 := X1.2; have z0 := X2.1; have z1 := X2.2))
          go_meet
          case rel => exact ⟨rfl, hb0, X0⟩
      case rest =>
        clear hb0 X0 X1 X2 HL HE
        obtain ⟨rfl, hb0, X0⟩ := hcut
        have x0 := X0.1
        have x1 := X0.2
        by_cases hw : width < 1
        · have hf : fitsB A width = false := by unfold fitsB; rw [decide_eq_false (by omega)]; rfl
          have hn : nextB A width = false := by unfold nextB fitsB; rw [decide_eq_false (p := 1 ≤ width) (by omega)]; rfl
          have hz : cutN A width = 0 := cut_none hw
          have hq : wEq 0 0 0 0 = true := by decide
          go_wp2_with (first | (go_at_call 9; refine (cut_any _ _ _ _ _ hA).mono ?_; rintro e w2 ⟨c, d, rfl, hcd, hb⟩; rw [hz] at hcd; obtain ⟨rfl, rfl⟩ := hcd.inj IsV.zero; clear hcd; have Y := Box.new w2 0 0; replace hb0 := (below_call hb0 hb).alloc (below_call hb0 hb).size (Obj.cells #[Value.int IntKind.u64 0, Value.int IntKind.u64 0] 24); replace X0 := (X0.later hb).alloc (Obj.cells #[Value.int IntKind.u64 0, Value.int IntKind.u64 0] 24); clear hb; replace x0 := X0.1; replace x1 := X0.2) | (go_at_call 10; refine (fits_any _ _ _ _ _ hA).mono ?_; rintro e w3 ⟨rfl, hb⟩; replace hb0 := below_call hb0 hb; replace X0 := X0.later hb; replace Y := Y.later hb; clear hb; replace x0 := X0.1; replace x1 := X0.2) | (go_at_call 11; refine (next_any _ _ _ _ _ hA).mono ?_; rintro e w4 ⟨n0, n1, rfl, hnn, hb⟩; replace hb0 := below_call hb0 hb; replace X0 := X0.later hb; replace Y := (Y.later hb).alloc (Obj.cells #[Value.int IntKind.u64 n0, Value.int IntKind.u64 n1] 24); clear hb; replace x0 := X0.1; replace x1 := X0.2; have y0 := Y.1; have y1 := Y.2))
          go_ret
          exact ⟨rfl, hb0.alloc hb0.size _⟩
        · have h1 : 1 ≤ width := by omega
          have hff := fits_of_cut A h1
          have HFE : Hid (fitsB A width = decide (cutN A width = A)) := fits_eq A h1
          have HA : Hid (A < B64 * B64) := hA.lt
          go_upto_region 14 with (first | (go_at_call 9; refine (cut_any _ _ _ _ _ hA).mono ?_; rintro e w2 ⟨c, d, rfl, hcd, hb⟩; have Y := Box.new w2 c d; replace hb0 := (below_call hb0 hb).alloc (below_call hb0 hb).size (Obj.cells #[Value.int IntKind.u64 c, Value.int IntKind.u64 d] 24); replace X0 := (X0.later hb).alloc (Obj.cells #[Value.int IntKind.u64 c, Value.int IntKind.u64 d] 24); clear hb; replace x0 := X0.1; replace x1 := X0.2) | (go_at_call 10; refine (fits_any _ _ _ _ _ hA).mono ?_; rintro e w3 ⟨rfl, hb⟩; replace hb0 := below_call hb0 hb; replace X0 := X0.later hb; replace Y := Y.later hb; clear hb; replace x0 := X0.1; replace x1 := X0.2))
          have y0 := Y.1
          have y1 := Y.2
          have hq : wEq c d c d = true := by rw [wEq_of hcd hcd]; simp
          have hC : Hid (∀ w' : World, Below w3.heap.size w3 w' → ((w'.cell? ⟨w.heap.size, 0, none⟩ = some (.int .u64 a0) ∧ w'.cell? ⟨w.heap.size, 1, none⟩ = some (.int .u64 b0) ∧ w'.cell? ⟨w2.heap.size, 0, none⟩ = some (.int .u64 c) ∧ w'.cell? ⟨w2.heap.size, 1, none⟩ = some (.int .u64 d)) ∧ Below w3.heap.size w3 w')) := fun w' h => ⟨⟨cell_later h x0, cell_later h x1, cell_later h y0, cell_later h y1⟩, h⟩
          go_cut [12, 117] (fun _ s w' => s = .bool false ∧ Below w3.heap.size w3 w')
          case first =>
            by_cases hca : cutN A width = A
            · have hfa : fitsB A width = true := by rw [HFE.out]; simpa using hca
              have hwa : wEq c d a0 b0 = true := by rw [wEq_of hcd hA]; simpa using hca
              clear hca
              go_region_held3 (fun w' => (w'.cell? ⟨w.heap.size, 0, none⟩ = some (.int .u64 a0) ∧ w'.cell? ⟨w.heap.size, 1, none⟩ = some (.int .u64 b0) ∧ w'.cell? ⟨w2.heap.size, 0, none⟩ = some (.int .u64 c) ∧ w'.cell? ⟨w2.heap.size, 1, none⟩ = some (.int .u64 d)) ∧ Below w3.heap.size w3 w') (first | exact hC.out _ (Below.refl _ _).drew | exact hC.out _ (keep_call hb (Nat.le_refl _) (by assumption))) (first | (go_at_call 10; refine (fits_any _ _ _ _ _ hcd).mono ?_; rintro e w4 ⟨rfl, hb⟩) | (go_at_call 9; refine (cut_any _ _ _ _ _ hcd).mono ?_; rintro e w5 ⟨c', d', rfl, hcd', hb⟩; rw [cut_cut] at hcd'; obtain ⟨rfl, rfl⟩ := hcd'.inj hcd; clear hcd'))
              go_wp2_with fail
              go_meet
              case rel => exact ⟨rfl, And.right (by assumption)⟩
            · have hfa : fitsB A width = false := by rw [HFE.out]; simpa using hca
              have hwa : wEq c d a0 b0 = false := by rw [wEq_of hcd hA]; simpa using hca
              clear hca
              go_region_held3 (fun w' => (w'.cell? ⟨w.heap.size, 0, none⟩ = some (.int .u64 a0) ∧ w'.cell? ⟨w.heap.size, 1, none⟩ = some (.int .u64 b0) ∧ w'.cell? ⟨w2.heap.size, 0, none⟩ = some (.int .u64 c) ∧ w'.cell? ⟨w2.heap.size, 1, none⟩ = some (.int .u64 d)) ∧ Below w3.heap.size w3 w') (first | exact hC.out _ (Below.refl _ _).drew | exact hC.out _ (keep_call hb (Nat.le_refl _) (by assumption))) (first | (go_at_call 10; refine (fits_any _ _ _ _ _ hcd).mono ?_; rintro e w4 ⟨rfl, hb⟩) | (go_at_call 9; refine (cut_any _ _ _ _ _ hcd).mono ?_; rintro e w5 ⟨c', d', rfl, hcd', hb⟩; rw [cut_cut] at hcd'; obtain ⟨rfl, rfl⟩ := hcd'.inj hcd; clear hcd'))
              go_wp2_with fail
              go_meet
              case rel => exact ⟨rfl, And.right (by assumption)⟩
          case rest =>
            obtain ⟨rfl, hbc⟩ := hcut
            clear hC x0 x1 y0 y1 hq
            replace hb0 := below_call hb0 hbc
            replace Y := Y.later hbc
            clear X0 hbc
            have y0 := Y.1
            have y1 := Y.2
            have hlt : cutN A width < B64 * B64 := hcd.lt
            cases hm : nextB (cutN A width) width with
            | false =>
              have hz : nextN (cutN A width) width = 0 := by unfold nextN; rw [hm]; rfl
              have ht := next_top HA.out h1 hm
              have hq1 : wEq 0 0 0 0 = true := by decide
              have hq2 : wEq c d c d = true := by rw [wEq_of hcd hcd]; simp
              have HZ : Hid (nextN (cutN A width) width = 0) := hz
              have HT : Hid (cutN A width = cutN (B64 * B64 - 1) width) := ht
              clear hz ht hlt
              go_upto_region 18 with (first | (go_at_call 11; refine (next_any _ _ _ _ _ hcd).mono ?_; rintro e w6 ⟨n0, n1, rfl, hnn, hb⟩; rw [HZ.out] at hnn; obtain ⟨rfl, rfl⟩ := hnn.inj IsV.zero; clear hnn; have Z := Box.new w6 0 0; replace hb0 := (below_call hb0 hb).alloc (below_call hb0 hb).size (Obj.cells #[Value.int IntKind.u64 0, Value.int IntKind.u64 0] 24); replace Y := (Y.later hb).alloc (Obj.cells #[Value.int IntKind.u64 0, Value.int IntKind.u64 0] 24); clear hb; replace y0 := Y.1; replace y1 := Y.2; have z0 := Z.1; have z1 := Z.2))
              have hC : Hid (∀ w' : World, Below (w6.heap.size + 1) (w6.alloc (Obj.cells #[Value.int IntKind.u64 0, Value.int IntKind.u64 0] 24)) w' → ((w'.cell? ⟨w2.heap.size, 0, none⟩ = some (.int .u64 c) ∧ w'.cell? ⟨w2.heap.size, 1, none⟩ = some (.int .u64 d) ∧ w'.cell? ⟨w6.heap.size, 0, none⟩ = some (.int .u64 0) ∧ w'.cell? ⟨w6.heap.size, 1, none⟩ = some (.int .u64 0)) ∧ Below (w6.heap.size + 1) (w6.alloc (Obj.cells #[Value.int IntKind.u64 0, Value.int IntKind.u64 0] 24)) w')) := fun w' h => by
                have h' : Below (w6.alloc (Obj.cells #[Value.int IntKind.u64 0, Value.int IntKind.u64 0] 24)).heap.size (w6.alloc (Obj.cells #[Value.int IntKind.u64 0, Value.int IntKind.u64 0] 24)) w' := by simpa using h
                exact ⟨⟨cell_later h' Y.1, cell_later h' Y.2, cell_later h' Z.1, cell_later h' Z.2⟩, h⟩
              go_region_held3 (fun w' => (w'.cell? ⟨w2.heap.size, 0, none⟩ = some (.int .u64 c) ∧ w'.cell? ⟨w2.heap.size, 1, none⟩ = some (.int .u64 d) ∧ w'.cell? ⟨w6.heap.size, 0, none⟩ = some (.int .u64 0) ∧ w'.cell? ⟨w6.heap.size, 1, none⟩ = some (.int .u64 0)) ∧ Below (w6.heap.size + 1) (w6.alloc (Obj.cells #[Value.int IntKind.u64 0, Value.int IntKind.u64 0] 24)) w') (first | exact hC.out _ (Below.refl _ _).drew | exact hC.out _ (keep_call hb (by simp) (by assumption))) (first | (go_at_call 9; refine (cut_any _ _ _ _ _ top_word).mono ?_; rintro e w7 ⟨c', d', rfl, hcd', hb⟩; rw [← HT.out] at hcd'; obtain ⟨rfl, rfl⟩ := hcd'.inj hcd; clear hcd'))
              have hb7 : Below (w6.heap.size + 1) (w6.alloc (Obj.cells #[Value.int IntKind.u64 0, Value.int IntKind.u64 0] 24)) w7 := And.right (by assumption)
              clear hb
              have hb7' := below_on hb0 hb0.size (by simpa using hb7)
              have y0 := (hC.out _ hb7).1.1
              have y1 := (hC.out _ hb7).1.2.1
              go_wp2_with (first | (go_at_call 10; refine (fits_any _ _ _ _ _ hcd).mono ?_; rintro e w8 ⟨rfl, hb8⟩))
              go_ret
              exact ⟨rfl, below_call hb7' hb8⟩
            | true =>
              obtain ⟨e1, hfn, es⟩ := next_true hlt hm
              have HE1 : Hid (nextN (cutN A width) width = succN (cutN A width)) := e1
              have HES : Hid (succN (cutN A width) = cutN A width + 1) := es
              have hcm : cmpI (cutN A width) (nextN (cutN A width) width) = -1 := cmp_lt (decide_eq_true (by rw [e1, es]; omega))
              clear e1 es hlt
              by_cases hd : d = 18446744073709551615
              · have hd' : (d == 18446744073709551615) = true := by simpa using hd
                have HD : Hid (d = 18446744073709551615) := hd
                clear hd
                go_wp2_with (first | (go_at_call 11; refine (next_any _ _ _ _ _ hcd).mono ?_; rintro e w6 ⟨n0, n1, rfl, hnn, hb⟩; have hnn' := hnn; rw [HE1.out] at hnn'; have hh := (succ_halves hcd hnn' HES.out).1 HD.out; have Z := Box.new w6 n0 n1; replace hb0 := (below_call hb0 hb).alloc (below_call hb0 hb).size (Obj.cells #[Value.int IntKind.u64 n0, Value.int IntKind.u64 n1] 24); replace Y := (Y.later hb).alloc (Obj.cells #[Value.int IntKind.u64 n0, Value.int IntKind.u64 n1] 24); clear hb hnn'; replace y0 := Y.1; replace y1 := Y.2; have z0 := Z.1; have z1 := Z.2; have hq : wEq n0 n1 (IntKind.u64.wrap (c + 1)) (IntKind.u64.wrap (d + 1)) = true := (by rw [← hh.1, ← hh.2, wEq_of hnn hnn]; simp); clear hh) | (go_at_call 10; refine (fits_any _ _ _ _ _ hnn).mono ?_; rintro e w7 ⟨rfl, hb⟩; replace hb0 := below_call hb0 hb; replace Y := Y.later hb; replace Z := Z.later hb; clear hb; replace y0 := Y.1; replace y1 := Y.2; replace z0 := Z.1; replace z1 := Z.2) | (go_at_call 7; refine (cmp_any _ _ _ _ _ _ _ hcd hnn).mono ?_; rintro e w8 ⟨rfl, hb⟩; replace hb0 := below_call hb0 hb; clear hb))
                go_ret
                exact ⟨rfl, hb0⟩
              · have hd' : (d == 18446744073709551615) = false := by simpa using hd
                have HD : Hid (d ≠ 18446744073709551615) := hd
                clear hd
                go_wp2_with (first | (go_at_call 11; refine (next_any _ _ _ _ _ hcd).mono ?_; rintro e w6 ⟨n0, n1, rfl, hnn, hb⟩; have hnn' := hnn; rw [HE1.out] at hnn'; have hh := (succ_halves hcd hnn' HES.out).2 HD.out; have Z := Box.new w6 n0 n1; replace hb0 := (below_call hb0 hb).alloc (below_call hb0 hb).size (Obj.cells #[Value.int IntKind.u64 n0, Value.int IntKind.u64 n1] 24); replace Y := (Y.later hb).alloc (Obj.cells #[Value.int IntKind.u64 n0, Value.int IntKind.u64 n1] 24); clear hb hnn'; replace y0 := Y.1; replace y1 := Y.2; have z0 := Z.1; have z1 := Z.2; have hq : wEq n0 n1 (IntKind.u64.wrap c) (IntKind.u64.wrap (d + 1)) = true := (by rw [wrap_half hcd, ← hh.2, ← hh.1]; rw [wEq_of hnn hnn]; simp); clear hh) | (go_at_call 10; refine (fits_any _ _ _ _ _ hnn).mono ?_; rintro e w7 ⟨rfl, hb⟩; replace hb0 := below_call hb0 hb; replace Y := Y.later hb; replace Z := Z.later hb; clear hb; replace y0 := Y.1; replace y1 := Y.2; replace z0 := Z.1; replace z1 := Z.2) | (go_at_call 7; refine (cmp_any _ _ _ _ _ _ _ hcd hnn).mono ?_; rintro e w8 ⟨rfl, hb⟩; replace hb0 := below_call hb0 hb; clear hb))
                go_ret
                exact ⟨rfl, hb0⟩
end Go.Proofs.Ytcafmhlnfkgegaa
