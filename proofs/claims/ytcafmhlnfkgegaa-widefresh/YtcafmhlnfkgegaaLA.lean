import Derived.Test.YtcafmhlnfkgegaaR9
import Derived.Lib.ConvBytes
import Derived.Outline
namespace Go.Proofs.Ytcafmhlnfkgegaa
open Go.RowKit

def strF (s : ByteArray) (i : Nat) : Nat := (s.data.toList.getD i 0).toNat
def ofE (s : ByteArray) : Int := if s.size < 16 then 17 else 0
def ofV (s : ByteArray) : Nat := if s.size < 16 then 0 else valN (strF s) 16
theorem strF_lt (s : ByteArray) (i : Nat) : strF s i < 256 := UInt8.toNat_lt _
theorem below_bytes (W : World) (s : ByteArray) : Below W.heap.size W (Lib.bytesWorld W 5 s) :=
  ⟨rfl, rfl, rfl, by rw [Lib.bytesWorld_size]; omega, fun k hk => Lib.bytesWorld_at_old W 5 s k hk⟩
theorem conv_str (s : ByteArray) (W : World) : (convert 9 32 (.string s)).run Try.prog W = .ok (.slice (some ⟨W.heap.size, 0, none⟩) s.size (grownCap W s.size 0 5)) (Lib.bytesWorld W 5 s) :=
  Lib.run_convert_string_bytes W 9 32 5 s Try.underlying9 Try.underlying32 Try.underlying5
theorem str_cell (W : World) (s : ByteArray) (i : Nat) (h : i < s.size) : (Lib.bytesWorld W 5 s).cell? ⟨W.heap.size, 0 + i, none⟩ = some (.int .u8 (strF s i : Int)) := by
  rw [Nat.zero_add, Lib.bytesWorld_cell W 5 s i h]
  rfl
theorem of_str (s : ByteArray) (W : World) (cap : Nat) (hcap : s.size ≤ cap) :
    Calls Try.prog 13 #[.slice (some ⟨W.heap.size, 0, none⟩) s.size cap] (Lib.bytesWorld W 5 s) fun e w' => ∃ c d : Int, e = .returned (.tuple #[.agg #[.int .u64 c, .int .u64 d], .int .i64 (ofE s)]) ∧ IsV c d (ofV s) ∧ Below (Lib.bytesWorld W 5 s).heap.size (Lib.bytesWorld W 5 s) w' := by
  by_cases h : s.size < 16
  · unfold ofE ofV
    rw [if_pos h, if_pos h]
    exact (of_short _ _ _ _ h).mono fun e w' ⟨he, hb⟩ => ⟨0, 0, he, IsV.zero, hb⟩
  · unfold ofE ofV
    rw [if_neg h, if_neg h]
    exact of_any W.heap.size 0 _ _ (strF s) _ (by omega) hcap (strF_lt s) (fun i hi => str_cell W s i (by omega))
theorem rOf_str (s : ByteArray) (W : World) (cap : Nat) :
    Calls Try.prog 23 #[.slice (some ⟨W.heap.size, 0, none⟩) s.size cap] (Lib.bytesWorld W 5 s) fun e w' => ∃ c d : Int, e = .returned (.tuple #[.agg #[.int .u64 c, .int .u64 d], .int .i64 (ofE s)]) ∧ IsV c d (ofV s) ∧ Below (Lib.bytesWorld W 5 s).heap.size (Lib.bytesWorld W 5 s) w' := by
  by_cases h : s.size < 16
  · unfold ofE ofV
    rw [if_pos h, if_pos h]
    exact (rOf_short _ _ _ _ h).mono fun e w' ⟨he, hb⟩ => ⟨0, 0, he, IsV.zero, hb⟩
  · unfold ofE ofV
    rw [if_neg h, if_neg h]
    exact rOf_any W.heap.size 0 _ _ (strF s) _ (by omega) (strF_lt s) (fun i hi => str_cell W s i (by omega))
theorem rOf_str' (s : ByteArray) (W : World) (cap blk : Nat) (hblk : blk = W.heap.size) :
    Calls Try.prog 23 #[.slice (some ⟨blk, 0, none⟩) s.size cap] (Lib.bytesWorld W 5 s) fun e w' => ∃ c d : Int, e = .returned (.tuple #[.agg #[.int .u64 c, .int .u64 d], .int .i64 (ofE s)]) ∧ IsV c d (ofV s) ∧ Below (Lib.bytesWorld W 5 s).heap.size (Lib.bytesWorld W 5 s) w' := by
  subst hblk
  exact rOf_str s W cap
theorem wEq_self (c d : Int) : wEq c d c d = true := by unfold wEq; simp

set_option linter.unusedSimpArgs false in
set_option maxRecDepth 100000 in
set_option maxHeartbeats 4000000 in
theorem all_walk (a0 b0 a1 b1 width : Int) (N M : Nat) (s : ByteArray) (w : World) (hN : IsV a0 b0 N) (hM : IsV a1 b1 M) (hmax : width ≤ 9223372036854775807) :
    Calls Try.prog 6 #[.agg #[.int .u64 a0, .int .u64 b0], .agg #[.int .u64 a1, .int .u64 b1], .int .i64 width, .string s] w fun e w' => e = .returned (.bool true) ∧ Below w.heap.size w w' := by
  have heq := eqlW
  have hne := neqW
  have hself := wEq_self
  have hC : Hid (∀ w' : World, Below (w.heap.size + 1 + 1) ((w.alloc (Obj.cells #[Value.int IntKind.u64 a0, Value.int IntKind.u64 b0] 24)).alloc (Obj.cells #[Value.int IntKind.u64 a1, Value.int IntKind.u64 b1] 24)) w' → (w'.cell? ⟨w.heap.size, 0, none⟩ = some (.int .u64 a0) ∧ w'.cell? ⟨w.heap.size, 1, none⟩ = some (.int .u64 b0) ∧ w'.cell? ⟨w.heap.size + 1, 0, none⟩ = some (.int .u64 a1) ∧ w'.cell? ⟨w.heap.size + 1, 1, none⟩ = some (.int .u64 b1)) ∧ Below (w.heap.size + 1 + 1) ((w.alloc (Obj.cells #[Value.int IntKind.u64 a0, Value.int IntKind.u64 b0] 24)).alloc (Obj.cells #[Value.int IntKind.u64 a1, Value.int IntKind.u64 b1] 24)) w') := fun w' h => by
    have h' : Below ((w.alloc (Obj.cells #[Value.int IntKind.u64 a0, Value.int IntKind.u64 b0] 24)).alloc (Obj.cells #[Value.int IntKind.u64 a1, Value.int IntKind.u64 b1] 24)).heap.size ((w.alloc (Obj.cells #[Value.int IntKind.u64 a0, Value.int IntKind.u64 b0] 24)).alloc (Obj.cells #[Value.int IntKind.u64 a1, Value.int IntKind.u64 b1] 24)) w' := by simpa using h
    have B0 := ((Box.new w a0 b0).alloc (Obj.cells #[Value.int IntKind.u64 a1, Value.int IntKind.u64 b1] 24)).later h'
    have B1 := Box.later h' (Box.new (w.alloc (Obj.cells #[Value.int IntKind.u64 a0, Value.int IntKind.u64 b0] 24)) a1 b1)
    have B1' : Box w' (w.heap.size + 1) a1 b1 := by simpa using B1
    exact ⟨⟨B0.1, B0.2, B1'.1, B1'.2⟩, h⟩
  go_enter Try.func6, Try.ntmps6
  go_wp2
  go_region_held3 (fun w' => (w'.cell? ⟨w.heap.size, 0, none⟩ = some (.int .u64 a0) ∧ w'.cell? ⟨w.heap.size, 1, none⟩ = some (.int .u64 b0) ∧ w'.cell? ⟨w.heap.size + 1, 0, none⟩ = some (.int .u64 a1) ∧ w'.cell? ⟨w.heap.size + 1, 1, none⟩ = some (.int .u64 b1)) ∧ Below (w.heap.size + 1 + 1) ((w.alloc (Obj.cells #[Value.int IntKind.u64 a0, Value.int IntKind.u64 b0] 24)).alloc (Obj.cells #[Value.int IntKind.u64 a1, Value.int IntKind.u64 b1] 24)) w') (first | exact hC.out _ (Below.refl _ _).drew | exact hC.out _ (keep_call hb (by simp) (by assumption))) (first | (go_at_call 8; refine (known_any _).mono ?_; rintro e w1 ⟨rfl, hb⟩) | (go_at_call 10; refine (fits_any _ _ _ _ _ hN).mono ?_; rintro e w1 ⟨rfl, hb⟩) | (go_at_call 17; refine (rFits_any _ _ _ _ _ hN hmax).mono ?_; rintro e w1 ⟨rfl, hb⟩) | (go_at_call 9; refine (cut_any _ _ _ _ _ hN).mono ?_; rintro e w1 ⟨c, d, rfl, hcd, hb⟩) | (go_at_call 18; refine (rCut_any _ _ _ _ _ hN).mono ?_; rintro e w1 ⟨c2, d2, rfl, hcd2, hb⟩; obtain ⟨rfl, rfl⟩ := hcd.inj hcd2; clear hcd2) | (go_at_call 7; refine (cmp_any _ _ _ _ _ _ _ hN hM).mono ?_; rintro e w1 ⟨rfl, hb⟩) | (go_at_call 19; refine (rCmp_any _ _ _ _ _ _ _ hN hM).mono ?_; rintro e w1 ⟨rfl, hb⟩))
  have hB1 : Below (w.heap.size + 1 + 1) ((w.alloc (Obj.cells #[Value.int IntKind.u64 a0, Value.int IntKind.u64 b0] 24)).alloc (Obj.cells #[Value.int IntKind.u64 a1, Value.int IntKind.u64 b1] 24)) w1 := And.right (by assumption)
  have hb0 : Below w.heap.size w w1 := below_on (below2 _ _ _) (by omega) hB1
  have X0 : Box w1 w.heap.size a0 b0 := ⟨(hC.out _ hB1).1.1, (hC.out _ hB1).1.2.1⟩
  have x0 := X0.1
  have x1 := X0.2
  clear hC hB1 hb hcd
  go_upto_region 7 with (first | (go_at_call 11; refine (next_any _ _ _ _ _ hN).mono ?_; rintro e w2 ⟨c, d, rfl, hcd, hb⟩; have Y1 := Box.new w2 c d; replace hb0 := (below_call hb0 hb).alloc (below_call hb0 hb).size (Obj.cells #[Value.int IntKind.u64 c, Value.int IntKind.u64 d] 24); replace X0 := (X0.later hb).alloc (Obj.cells #[Value.int IntKind.u64 c, Value.int IntKind.u64 d] 24); clear hb; replace x0 := X0.1; replace x1 := X0.2) | (go_at_call 20; refine (rNext_any _ _ _ _ _ hN hmax).mono ?_; rintro e w3 ⟨c2, d2, rfl, hcd2, hb⟩; obtain ⟨rfl, rfl⟩ := hcd.inj hcd2; clear hcd2; have Y2 := Box.new w3 c d; replace hb0 := (below_call hb0 hb).alloc (below_call hb0 hb).size (Obj.cells #[Value.int IntKind.u64 c, Value.int IntKind.u64 d] 24); replace X0 := (X0.later hb).alloc (Obj.cells #[Value.int IntKind.u64 c, Value.int IntKind.u64 d] 24); replace Y1 := (Y1.later hb).alloc (Obj.cells #[Value.int IntKind.u64 c, Value.int IntKind.u64 d] 24); clear hb; replace x0 := X0.1; replace x1 := X0.2) | (go_at_call 14; refine (parse_any _ _).mono ?_; rintro e w4 ⟨p, q, rfl, hpq, hb⟩; have Y3 := Box.new w4 p q; replace hb0 := (below_call hb0 hb).alloc (below_call hb0 hb).size (Obj.cells #[Value.int IntKind.u64 p, Value.int IntKind.u64 q] 24); replace X0 := (X0.later hb).alloc (Obj.cells #[Value.int IntKind.u64 p, Value.int IntKind.u64 q] 24); replace Y1 := (Y1.later hb).alloc (Obj.cells #[Value.int IntKind.u64 p, Value.int IntKind.u64 q] 24); replace Y2 := (Y2.later hb).alloc (Obj.cells #[Value.int IntKind.u64 p, Value.int IntKind.u64 q] 24); clear hb; replace x0 := X0.1; replace x1 := X0.2) | (go_at_call 21; refine (rParse_any _ _).mono ?_; rintro e w5 ⟨p2, q2, rfl, hpq2, hb⟩; obtain ⟨rfl, rfl⟩ := hpq.inj hpq2; clear hpq2; have Y4 := Box.new w5 p q; replace hb0 := (below_call hb0 hb).alloc (below_call hb0 hb).size (Obj.cells #[Value.int IntKind.u64 p, Value.int IntKind.u64 q] 24); replace X0 := (X0.later hb).alloc (Obj.cells #[Value.int IntKind.u64 p, Value.int IntKind.u64 q] 24); replace Y1 := (Y1.later hb).alloc (Obj.cells #[Value.int IntKind.u64 p, Value.int IntKind.u64 q] 24); replace Y2 := (Y2.later hb).alloc (Obj.cells #[Value.int IntKind.u64 p, Value.int IntKind.u64 q] 24); replace Y3 := (Y3.later hb).alloc (Obj.cells #[Value.int IntKind.u64 p, Value.int IntKind.u64 q] 24); clear hb; replace x0 := X0.1; replace x1 := X0.2))
  have hC : Hid (∀ w' : World, Below (w5.heap.size + 1) (w5.alloc (Obj.cells #[Value.int IntKind.u64 p, Value.int IntKind.u64 q] 24)) w' → (w'.cell? ⟨w.heap.size, 0, none⟩ = some (.int .u64 a0) ∧ w'.cell? ⟨w.heap.size, 1, none⟩ = some (.int .u64 b0) ∧ w'.cell? ⟨w2.heap.size, 0, none⟩ = some (.int .u64 c) ∧ w'.cell? ⟨w2.heap.size, 1, none⟩ = some (.int .u64 d) ∧ w'.cell? ⟨w3.heap.size, 0, none⟩ = some (.int .u64 c) ∧ w'.cell? ⟨w3.heap.size, 1, none⟩ = some (.int .u64 d) ∧ w'.cell? ⟨w4.heap.size, 0, none⟩ = some (.int .u64 p) ∧ w'.cell? ⟨w4.heap.size, 1, none⟩ = some (.int .u64 q) ∧ w'.cell? ⟨w5.heap.size, 0, none⟩ = some (.int .u64 p) ∧ w'.cell? ⟨w5.heap.size, 1, none⟩ = some (.int .u64 q)) ∧ Below (w5.heap.size + 1) (w5.alloc (Obj.cells #[Value.int IntKind.u64 p, Value.int IntKind.u64 q] 24)) w') := fun w' h => by
    have h' : Below (w5.alloc (Obj.cells #[Value.int IntKind.u64 p, Value.int IntKind.u64 q] 24)).heap.size (w5.alloc (Obj.cells #[Value.int IntKind.u64 p, Value.int IntKind.u64 q] 24)) w' := by simpa using h
    exact ⟨⟨cell_later h' X0.1, cell_later h' X0.2, cell_later h' Y1.1, cell_later h' Y1.2, cell_later h' Y2.1, cell_later h' Y2.2, cell_later h' Y3.1, cell_later h' Y3.2, cell_later h' Y4.1, cell_later h' Y4.2⟩, h⟩
  go_region_held3 (fun w' => (w'.cell? ⟨w.heap.size, 0, none⟩ = some (.int .u64 a0) ∧ w'.cell? ⟨w.heap.size, 1, none⟩ = some (.int .u64 b0) ∧ w'.cell? ⟨w2.heap.size, 0, none⟩ = some (.int .u64 c) ∧ w'.cell? ⟨w2.heap.size, 1, none⟩ = some (.int .u64 d) ∧ w'.cell? ⟨w3.heap.size, 0, none⟩ = some (.int .u64 c) ∧ w'.cell? ⟨w3.heap.size, 1, none⟩ = some (.int .u64 d) ∧ w'.cell? ⟨w4.heap.size, 0, none⟩ = some (.int .u64 p) ∧ w'.cell? ⟨w4.heap.size, 1, none⟩ = some (.int .u64 q) ∧ w'.cell? ⟨w5.heap.size, 0, none⟩ = some (.int .u64 p) ∧ w'.cell? ⟨w5.heap.size, 1, none⟩ = some (.int .u64 q)) ∧ Below (w5.heap.size + 1) (w5.alloc (Obj.cells #[Value.int IntKind.u64 p, Value.int IntKind.u64 q] 24)) w') (first | exact hC.out _ (Below.refl _ _).drew | exact hC.out _ (keep_call hb (by simp) (by assumption))) (first | (go_at_call 15; refine (text_any _ _ _ _ hN).mono ?_; rintro e w6 ⟨rfl, hb⟩) | (go_at_call 22; refine (rText_any _ _ _ _ hN).mono ?_; rintro e w6 ⟨rfl, hb⟩))
  have hB2 : Below (w5.heap.size + 1) (w5.alloc (Obj.cells #[Value.int IntKind.u64 p, Value.int IntKind.u64 q] 24)) w6 := And.right (by assumption)
  replace hb0 : Below w.heap.size w w6 := below_on hb0 hb0.size (by simpa using hB2)
  replace X0 : Box w6 w.heap.size a0 b0 := ⟨(hC.out _ hB2).1.1, (hC.out _ hB2).1.2.1⟩
  clear hC hB2 hb Y1 Y2 Y3 Y4 x0 x1 hcd hpq
  have hcs := conv_str s
  go_upto_region 11 with (first | (go_at_call 13; refine (of_str s _ _ (grownCap_ge _ _ _ _)).mono ?_; rintro e w7 ⟨c5, d5, rfl, hcd5, hb⟩; have Y5 := Box.new w7 c5 d5; replace hb0 := Below.alloc (below_call (below_call hb0 (below_bytes w6 s)) hb) (below_call (below_call hb0 (below_bytes w6 s)) hb).size (Obj.cells #[Value.int IntKind.u64 c5, Value.int IntKind.u64 d5] 24); replace X0 := ((X0.later (below_bytes w6 s)).later hb).alloc (Obj.cells #[Value.int IntKind.u64 c5, Value.int IntKind.u64 d5] 24); clear hb) | (go_at_call 23; refine (rOf_str' s _ _ _ (by simp)).mono ?_; rintro e w8 ⟨c6, d6, rfl, hcd6, hb⟩; obtain ⟨rfl, rfl⟩ := hcd5.inj hcd6; clear hcd6; have Y6 := Box.new w8 c5 d5; replace hb0 := Below.alloc (below_call (below_call hb0 (below_bytes (w7.alloc (Obj.cells #[Value.int IntKind.u64 c5, Value.int IntKind.u64 d5] 24)) s)) hb) (below_call (below_call hb0 (below_bytes (w7.alloc (Obj.cells #[Value.int IntKind.u64 c5, Value.int IntKind.u64 d5] 24)) s)) hb).size (Obj.cells #[Value.int IntKind.u64 c5, Value.int IntKind.u64 d5] 24); replace X0 := ((X0.later (below_bytes (w7.alloc (Obj.cells #[Value.int IntKind.u64 c5, Value.int IntKind.u64 d5] 24)) s)).later hb).alloc (Obj.cells #[Value.int IntKind.u64 c5, Value.int IntKind.u64 d5] 24); replace Y5 := ((Y5.later (below_bytes (w7.alloc (Obj.cells #[Value.int IntKind.u64 c5, Value.int IntKind.u64 d5] 24)) s)).later hb).alloc (Obj.cells #[Value.int IntKind.u64 c5, Value.int IntKind.u64 d5] 24); clear hb))
  have hC : Hid (∀ w' : World, Below (w8.heap.size + 1) (w8.alloc (Obj.cells #[Value.int IntKind.u64 c5, Value.int IntKind.u64 d5] 24)) w' → (w'.cell? ⟨w.heap.size, 0, none⟩ = some (.int .u64 a0) ∧ w'.cell? ⟨w.heap.size, 1, none⟩ = some (.int .u64 b0) ∧ w'.cell? ⟨w7.heap.size, 0, none⟩ = some (.int .u64 c5) ∧ w'.cell? ⟨w7.heap.size, 1, none⟩ = some (.int .u64 d5) ∧ w'.cell? ⟨w8.heap.size, 0, none⟩ = some (.int .u64 c5) ∧ w'.cell? ⟨w8.heap.size, 1, none⟩ = some (.int .u64 d5)) ∧ Below (w8.heap.size + 1) (w8.alloc (Obj.cells #[Value.int IntKind.u64 c5, Value.int IntKind.u64 d5] 24)) w') := fun w' h => by
    have h' : Below (w8.alloc (Obj.cells #[Value.int IntKind.u64 c5, Value.int IntKind.u64 d5] 24)).heap.size (w8.alloc (Obj.cells #[Value.int IntKind.u64 c5, Value.int IntKind.u64 d5] 24)) w' := by simpa using h
    exact ⟨⟨cell_later h' X0.1, cell_later h' X0.2, cell_later h' Y5.1, cell_later h' Y5.2, cell_later h' Y6.1, cell_later h' Y6.2⟩, h⟩
  refine wp_region_held_drew (S := (fun w' => (w'.cell? ⟨w.heap.size, 0, none⟩ = some (.int .u64 a0) ∧ w'.cell? ⟨w.heap.size, 1, none⟩ = some (.int .u64 b0) ∧ w'.cell? ⟨w7.heap.size, 0, none⟩ = some (.int .u64 c5) ∧ w'.cell? ⟨w7.heap.size, 1, none⟩ = some (.int .u64 d5) ∧ w'.cell? ⟨w8.heap.size, 0, none⟩ = some (.int .u64 c5) ∧ w'.cell? ⟨w8.heap.size, 1, none⟩ = some (.int .u64 d5)) ∧ Below (w8.heap.size + 1) (w8.alloc (Obj.cells #[Value.int IntKind.u64 c5, Value.int IntKind.u64 d5] 24)) w')) (by kernel_rfl) ?_ (fun hHeld => ?_)
  · exact hC.out _ (Below.refl _ _).drew
  refine wpAnyH_take (i := 0) (oi := _) (v := ?_) rfl (by kernel_rfl) (by kernel_rfl) (by kernel_rfl) (fun _ _ _ h => h) (Or.inl ⟨by rfl, ?_⟩) (by assumption) ?_
  rotate_left
  · (intro w hSw; (try dsimp only at hSw); go_simp; try with_reducible rfl)
  simp only [List.getElem_toArray, List.getElem_cons_succ, List.getElem_cons_zero, Act.put, List.setIfInBounds_toArray, List.set_cons_zero, List.set_cons_succ]
  refine wpAnyH_take (i := 1) (oi := _) (v := ?_) rfl (by kernel_rfl) (by kernel_rfl) (by kernel_rfl) (fun _ _ _ h => h) (Or.inl ⟨by rfl, ?_⟩) (by assumption) ?_
  rotate_left
  · (intro w hSw; (try dsimp only at hSw); go_simp; try with_reducible rfl)
  simp only [List.getElem_toArray, List.getElem_cons_succ, List.getElem_cons_zero, Act.put, List.setIfInBounds_toArray, List.set_cons_zero, List.set_cons_succ]
  refine wpAnyH_take (i := 2) (oi := _) (v := ?_) rfl (by kernel_rfl) (by kernel_rfl) (by kernel_rfl) (fun _ _ _ h => h) (Or.inl ⟨by rfl, ?_⟩) (by assumption) ?_
  rotate_left
  · (intro w hSw; (try dsimp only at hSw); go_simp; try with_reducible rfl)
  simp only [List.getElem_toArray, List.getElem_cons_succ, List.getElem_cons_zero, Act.put, List.setIfInBounds_toArray, List.set_cons_zero, List.set_cons_succ]
  refine wpAnyH_take (i := 3) (oi := _) (v := ?_) rfl (by kernel_rfl) (by kernel_rfl) (by kernel_rfl) (fun _ _ _ h => h) (Or.inl ⟨by rfl, ?_⟩) (by assumption) ?_
  rotate_left
  · (intro w hSw; (try dsimp only at hSw); go_simp; try with_reducible rfl)
  simp only [List.getElem_toArray, List.getElem_cons_succ, List.getElem_cons_zero, Act.put, List.setIfInBounds_toArray, List.set_cons_zero, List.set_cons_succ]
  refine wpAnyH_take (i := 4) (oi := _) (v := ?_) rfl (by kernel_rfl) (by kernel_rfl) (by kernel_rfl) (fun _ _ _ h => h) (Or.inl ⟨by rfl, ?_⟩) (by assumption) ?_
  rotate_left
  · (intro w hSw; (try dsimp only at hSw); go_simp; try with_reducible rfl)
  simp only [List.getElem_toArray, List.getElem_cons_succ, List.getElem_cons_zero, Act.put, List.setIfInBounds_toArray, List.set_cons_zero, List.set_cons_succ]
  refine wpAnyH_take (i := 5) (oi := _) (v := ?_) rfl (by kernel_rfl) (by kernel_rfl) (by kernel_rfl) (fun _ _ _ h => h) (Or.inl ⟨by rfl, ?_⟩) (by assumption) ?_
  rotate_left
  · (intro w hSw; (try dsimp only at hSw); go_simp; try with_reducible rfl)
  simp only [List.getElem_toArray, List.getElem_cons_succ, List.getElem_cons_zero, Act.put, List.setIfInBounds_toArray, List.set_cons_zero, List.set_cons_succ]
  refine wpAnyH_take (i := 6) (oi := _) (v := ?_) rfl (by kernel_rfl) (by kernel_rfl) (by kernel_rfl) (fun _ _ _ h => h) (Or.inl ⟨by rfl, ?_⟩) (by assumption) ?_
  rotate_left
  · (intro w hSw; (try dsimp only at hSw); go_simp; try with_reducible rfl)
  simp only [List.getElem_toArray, List.getElem_cons_succ, List.getElem_cons_zero, Act.put, List.setIfInBounds_toArray, List.set_cons_zero, List.set_cons_succ]
  refine wpAnyH_take (i := 7) (oi := _) (v := ?_) rfl (by kernel_rfl) (by kernel_rfl) (by kernel_rfl) (fun _ _ _ h => h) (Or.inl ⟨by rfl, ?_⟩) (by assumption) ?_
  rotate_left
  · (intro w hSw; (try dsimp only at hSw); go_simp; try with_reducible rfl)
  simp only [List.getElem_toArray, List.getElem_cons_succ, List.getElem_cons_zero, Act.put, List.setIfInBounds_toArray, List.set_cons_zero, List.set_cons_succ]
  refine wpAnyH_take (i := 8) (oi := _) (v := ?_) rfl (by kernel_rfl) (by kernel_rfl) (by kernel_rfl) (fun _ _ _ h => h) (Or.inl ⟨by rfl, ?_⟩) (by assumption) ?_
  rotate_left
  · (intro w hSw; (try dsimp only at hSw); go_simp; try with_reducible rfl)
  simp only [List.getElem_toArray, List.getElem_cons_succ, List.getElem_cons_zero, Act.put, List.setIfInBounds_toArray, List.set_cons_zero, List.set_cons_succ]
  refine wpAnyH_take (i := 9) (oi := _) (v := ?_) rfl (by kernel_rfl) (by kernel_rfl) (by kernel_rfl) (fun _ _ _ h => h) (Or.inl ⟨by rfl, ?_⟩) (by assumption) ?_
  rotate_left
  · (intro w hSw; (try dsimp only at hSw); go_simp; try with_reducible rfl)
  simp only [List.getElem_toArray, List.getElem_cons_succ, List.getElem_cons_zero, Act.put, List.setIfInBounds_toArray, List.set_cons_zero, List.set_cons_succ]
  refine wpAnyH_take (i := 12) (oi := _) (v := ?_) rfl (by kernel_rfl) (by kernel_rfl) (by kernel_rfl) (fun _ _ _ h => h) (Or.inl ⟨by rfl, ?_⟩) (by assumption) ?_
  rotate_left
  · (intro w hSw; (try dsimp only at hSw); go_simp; try with_reducible rfl)
  simp only [List.getElem_toArray, List.getElem_cons_succ, List.getElem_cons_zero, Act.put, List.setIfInBounds_toArray, List.set_cons_zero, List.set_cons_succ]
  refine wpAnyH_ready (rs := [10]) (by kernel_rfl) (by simp) ?_
  refine AllReadyH.cons rfl (fun K hK => ?_) AllReadyH.nil
  go_simp
  go_wp2_with (first | (go_at_call 12; refine (bytes_any _ _ _ _ hN).mono ?_; rintro e w9 ⟨g1, rfl, hg0, hg, hb⟩; have HCL1 : Hid (∀ i, i < 16 → w9.cell? ⟨g1, i, none⟩ = some (.int .u8 (byteN N i : Int))) := fun i hi => cell_bytes hg i hi; have hcv1 := conv_bytes w9 g1 0 16 N (fun i hi => by rw [Nat.zero_add]; exact HCL1.out i hi); clear hg))
  refine hK.out _ _ ?_ (fun hHeld => ?_)
  · (first | exact hC.out _ (Below.refl _ _).drew | assumption | exact hC.out _ (keep_call hb (by simp) (by assumption)))
  clear hK K
  refine wpAnyH_ready (rs := [11, 13]) (by kernel_rfl) (by simp) ?_
  refine AllReadyH.cons rfl (fun K hK => ?_) (AllReadyH.cons rfl (fun K hK => ?_) AllReadyH.nil)
  · go_simp
    refine hK.out _ _ ?_ (fun hHeld => ?_)
    · (first | exact hC.out _ (Below.refl _ _).drew | assumption | exact hC.out _ (keep_call hb (by simp) (by assumption)))
    clear hK K
    refine wpAnyH_ready (rs := [13]) (by kernel_rfl) (by simp) ?_
    refine AllReadyH.cons rfl (fun K hK => ?_) AllReadyH.nil
    go_simp
    go_wp2_with (first | (go_at_call 24; refine (rBytes_any _ _ _ _ hN).mono ?_; rintro e w10 ⟨g2, cap2, rfl, hcl2, hb⟩; have hcv2 := conv_bytes w10 g2 0 cap2 N (fun i hi => by rw [Nat.zero_add]; exact hcl2 i hi); clear hcl2; have hcv3 := conv_bytes w10 g1 0 16 N (fun i hi => by rw [Nat.zero_add]; exact cell_later hb (HCL1.out i hi))))
    refine hK.out _ _ ?_ (fun hHeld => ?_)
    · (first | exact hC.out _ (Below.refl _ _).drew | assumption | exact hC.out _ (keep_call hb (by simp) (by assumption)))
    clear hK K
    refine wpAnyH_ready (rs := [14]) (by kernel_rfl) (by simp) ?_
    refine AllReadyH.cons rfl (fun K hK => ?_) AllReadyH.nil
    go_simp
    refine hK.out _ _ ?_ (fun hHeld => ?_)
    · (first | exact hC.out _ (Below.refl _ _).drew | assumption | exact hC.out _ (keep_call hb (by simp) (by assumption)))
    clear hK K
    refine wpAnyH_take (i := 15) (oi := _) (v := ?_) rfl (by kernel_rfl) (by kernel_rfl) (by kernel_rfl) (fun _ _ _ h => h) (Or.inl ⟨by rfl, ?_⟩) (by assumption) ?_
    rotate_left
    · (intro w hSw; (try dsimp only at hSw); go_simp; try with_reducible rfl)
    simp only [List.getElem_toArray, List.getElem_cons_succ, List.getElem_cons_zero, Act.put, List.setIfInBounds_toArray, List.set_cons_zero, List.set_cons_succ]
    refine wpAnyH_take (i := 16) (oi := _) (v := ?_) rfl (by kernel_rfl) (by kernel_rfl) (by kernel_rfl) (fun _ _ _ h => h) (Or.inl ⟨by rfl, ?_⟩) (by assumption) ?_
    rotate_left
    · (intro w hSw; (try dsimp only at hSw); go_simp; try with_reducible rfl)
    simp only [List.getElem_toArray, List.getElem_cons_succ, List.getElem_cons_zero, Act.put, List.setIfInBounds_toArray, List.set_cons_zero, List.set_cons_succ]
    refine wpAnyH_take (i := 17) (oi := _) (v := ?_) rfl (by kernel_rfl) (by kernel_rfl) (by kernel_rfl) (fun _ _ _ h => h) (Or.inl ⟨by rfl, ?_⟩) (by assumption) ?_
    rotate_left
    · (intro w hSw; (try dsimp only at hSw); go_simp; try with_reducible rfl)
    simp only [List.getElem_toArray, List.getElem_cons_succ, List.getElem_cons_zero, Act.put, List.setIfInBounds_toArray, List.set_cons_zero, List.set_cons_succ]
    refine wpAnyH_done (by kernel_rfl) ?_ _
    go_wp2_with fail
    go_ret
    exact ⟨rfl, below_call hb0 (by simpa using hHeld.2)⟩
  · go_simp
    go_wp2_with (first | (go_at_call 24; refine (rBytes_any _ _ _ _ hN).mono ?_; rintro e w10 ⟨g2, cap2, rfl, hcl2, hb⟩; have hcv2 := conv_bytes w10 g2 0 cap2 N (fun i hi => by rw [Nat.zero_add]; exact hcl2 i hi); clear hcl2; have hcv3 := conv_bytes w10 g1 0 16 N (fun i hi => by rw [Nat.zero_add]; exact cell_later hb (HCL1.out i hi))))
    refine hK.out _ _ ?_ (fun hHeld => ?_)
    · (first | exact hC.out _ (Below.refl _ _).drew | assumption | exact hC.out _ (keep_call hb (by simp) (by assumption)))
    clear hK K
    refine wpAnyH_ready (rs := [11, 14]) (by kernel_rfl) (by simp) ?_
    refine AllReadyH.cons rfl (fun K hK => ?_) (AllReadyH.cons rfl (fun K hK => ?_) AllReadyH.nil)
    · go_simp
      refine hK.out _ _ ?_ (fun hHeld => ?_)
      · (first | exact hC.out _ (Below.refl _ _).drew | assumption | exact hC.out _ (keep_call hb (by simp) (by assumption)))
      clear hK K
      refine wpAnyH_ready (rs := [14]) (by kernel_rfl) (by simp) ?_
      refine AllReadyH.cons rfl (fun K hK => ?_) AllReadyH.nil
      go_simp
      refine hK.out _ _ ?_ (fun hHeld => ?_)
      · (first | exact hC.out _ (Below.refl _ _).drew | assumption | exact hC.out _ (keep_call hb (by simp) (by assumption)))
      clear hK K
      refine wpAnyH_take (i := 15) (oi := _) (v := ?_) rfl (by kernel_rfl) (by kernel_rfl) (by kernel_rfl) (fun _ _ _ h => h) (Or.inl ⟨by rfl, ?_⟩) (by assumption) ?_
      rotate_left
      · (intro w hSw; (try dsimp only at hSw); go_simp; try with_reducible rfl)
      simp only [List.getElem_toArray, List.getElem_cons_succ, List.getElem_cons_zero, Act.put, List.setIfInBounds_toArray, List.set_cons_zero, List.set_cons_succ]
      refine wpAnyH_take (i := 16) (oi := _) (v := ?_) rfl (by kernel_rfl) (by kernel_rfl) (by kernel_rfl) (fun _ _ _ h => h) (Or.inl ⟨by rfl, ?_⟩) (by assumption) ?_
      rotate_left
      · (intro w hSw; (try dsimp only at hSw); go_simp; try with_reducible rfl)
      simp only [List.getElem_toArray, List.getElem_cons_succ, List.getElem_cons_zero, Act.put, List.setIfInBounds_toArray, List.set_cons_zero, List.set_cons_succ]
      refine wpAnyH_take (i := 17) (oi := _) (v := ?_) rfl (by kernel_rfl) (by kernel_rfl) (by kernel_rfl) (fun _ _ _ h => h) (Or.inl ⟨by rfl, ?_⟩) (by assumption) ?_
      rotate_left
      · (intro w hSw; (try dsimp only at hSw); go_simp; try with_reducible rfl)
      simp only [List.getElem_toArray, List.getElem_cons_succ, List.getElem_cons_zero, Act.put, List.setIfInBounds_toArray, List.set_cons_zero, List.set_cons_succ]
      refine wpAnyH_done (by kernel_rfl) ?_ _
      go_wp2_with fail
      go_ret
      exact ⟨rfl, below_call hb0 (by simpa using hHeld.2)⟩
    · go_simp
      refine hK.out _ _ ?_ (fun hHeld => ?_)
      · (first | exact hC.out _ (Below.refl _ _).drew | assumption | exact hC.out _ (keep_call hb (by simp) (by assumption)))
      clear hK K
      refine wpAnyH_ready (rs := [11]) (by kernel_rfl) (by simp) ?_
      refine AllReadyH.cons rfl (fun K hK => ?_) AllReadyH.nil
      go_simp
      refine hK.out _ _ ?_ (fun hHeld => ?_)
      · (first | exact hC.out _ (Below.refl _ _).drew | assumption | exact hC.out _ (keep_call hb (by simp) (by assumption)))
      clear hK K
      refine wpAnyH_take (i := 15) (oi := _) (v := ?_) rfl (by kernel_rfl) (by kernel_rfl) (by kernel_rfl) (fun _ _ _ h => h) (Or.inl ⟨by rfl, ?_⟩) (by assumption) ?_
      rotate_left
      · (intro w hSw; (try dsimp only at hSw); go_simp; try with_reducible rfl)
      simp only [List.getElem_toArray, List.getElem_cons_succ, List.getElem_cons_zero, Act.put, List.setIfInBounds_toArray, List.set_cons_zero, List.set_cons_succ]
      refine wpAnyH_take (i := 16) (oi := _) (v := ?_) rfl (by kernel_rfl) (by kernel_rfl) (by kernel_rfl) (fun _ _ _ h => h) (Or.inl ⟨by rfl, ?_⟩) (by assumption) ?_
      rotate_left
      · (intro w hSw; (try dsimp only at hSw); go_simp; try with_reducible rfl)
      simp only [List.getElem_toArray, List.getElem_cons_succ, List.getElem_cons_zero, Act.put, List.setIfInBounds_toArray, List.set_cons_zero, List.set_cons_succ]
      refine wpAnyH_take (i := 17) (oi := _) (v := ?_) rfl (by kernel_rfl) (by kernel_rfl) (by kernel_rfl) (fun _ _ _ h => h) (Or.inl ⟨by rfl, ?_⟩) (by assumption) ?_
      rotate_left
      · (intro w hSw; (try dsimp only at hSw); go_simp; try with_reducible rfl)
      simp only [List.getElem_toArray, List.getElem_cons_succ, List.getElem_cons_zero, Act.put, List.setIfInBounds_toArray, List.set_cons_zero, List.set_cons_succ]
      refine wpAnyH_done (by kernel_rfl) ?_ _
      go_wp2_with fail
      go_ret
      exact ⟨rfl, below_call hb0 (by simpa using hHeld.2)⟩
end Go.Proofs.Ytcafmhlnfkgegaa
