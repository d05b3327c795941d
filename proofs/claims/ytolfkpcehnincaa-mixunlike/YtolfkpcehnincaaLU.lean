import Derived.Test.YtolfkpcehnincaaLC
import Derived.Deep.DeepCutAuto
set_option linter.unusedVariables false
namespace Go.Proofs.Ytolfkpcehnincaa
open Go.RowKit

theorem hash_full (o : Int) (a b : Nat) (w : World) (ha : a < B64) (hb : b < B64) :
    Calls Try.prog 6 #[.int .i64 o, .agg #[.int .u64 (a : Int), .int .u64 (b : Int)], .int .i64 64] w fun e w' => e = .returned (.int .u64 (hashN (objN o) a b : Int)) ∧ Below w.heap.size w w' := by
  have := hash_any o a b 64 w ha hb
  rw [lowN_all (by decide)] at this
  exact this
theorem beq_iff {x y u v : Int} (h : x = y ↔ u = v) : (x == y) = (u == v) := by
  by_cases e : x = y
  · rw [beq_iff_eq.2 e, beq_iff_eq.2 (h.1 e)]
  · rw [beq_eq_false_iff_ne.2 e, beq_eq_false_iff_ne.2 (fun k => e (h.2 k))]
theorem cast_iff {x y : Nat} : ((x : Int) = (y : Int)) ↔ x = y := by omega
theorem unlike_obj {o : Int} {a b c : Nat} (h1 : -9223372036854775808 ≤ o) (h2 : o ≤ 9223372036854775807) (ha : a < B64) (hb : b < B64) (hc : c < B64) :
    ((hashN (objN o) a b : Int) == (hashN (objN (wrap64 (c : Int))) a b : Int)) = (wrap64 (c : Int) == o) := by
  apply beq_iff
  rw [cast_iff, hashN_obj (objN_lt _) (objN_lt _) ha hb]
  unfold objN
  unfold wrap64
  unfold B64 at hc
  omega
theorem unlike_hi {o a b c : Nat} (ha : a < B64) (hb : b < B64) (hc : c < B64) :
    ((hashN o a b : Int) == (hashN o c b : Int)) = ((c : Int) == (a : Int)) := by
  apply beq_iff
  rw [cast_iff, hashN_hi ha hb hc, cast_iff]
  exact eq_comm
theorem unlike_lo {o a b c : Nat} (hb : b < B64) (hc : c < B64) :
    ((hashN o a b : Int) == (hashN o a c : Int)) = ((c : Int) == (b : Int)) := by
  apply beq_iff
  rw [cast_iff, hashN_lo hb hc, cast_iff]
  exact eq_comm
set_option maxRecDepth 100000 in
set_option maxHeartbeats 2000000 in
theorem unlike_law (o : Int) (a b c : Nat) (w : World) (ha : a < B64) (hb : b < B64) (hc : c < B64) (h1 : -9223372036854775808 ≤ o) (h2 : o ≤ 9223372036854775807) :
    Calls Try.prog 4 #[.int .i64 o, .agg #[.int .u64 (a : Int), .int .u64 (b : Int)], .int .u64 (c : Int)] w fun e w' => e = .returned (.bool true) ∧ Below w.heap.size w w' := by
  have hC : Hid _ := boxed_cells w a b
  have hB : Below (w.heap.size + 1) (w.alloc (Obj.cells #[.int .u64 (a : Int), .int .u64 (b : Int)] 24)) (w.alloc (Obj.cells #[.int .u64 (a : Int), .int .u64 (b : Int)] 24)) := Below.refl _ _
  have q1 : Hid _ := unlike_obj h1 h2 ha hb hc
  have q2 : Hid _ := unlike_hi (o := objN o) ha hb hc
  have q3 : Hid _ := unlike_lo (o := objN o) (a := a) hb hc
  go_enter Try.func4, Try.ntmps4
  go_upto_region 2 with (first | (go_at_call 6; refine (hash_full _ _ _ _ (by assumption) (by assumption)).mono ?_; rintro e w1 ⟨rfl, hx⟩; replace hB := keep_call hx (by simp) ⟨trivial, hB⟩; obtain ⟨⟨x0, x1⟩, -⟩ := hC.out _ hB; clear hx))
  go_upto_region 3 with (first | (go_at_call 6; refine (hash_full _ _ _ _ (by assumption) (by assumption)).mono ?_; rintro e w1 ⟨rfl, hx⟩; replace hB := keep_call hx (by simp) ⟨trivial, hB⟩; obtain ⟨⟨x0, x1⟩, -⟩ := hC.out _ hB; clear hx))
  go_upto_region 4 with (first | (go_at_call 6; refine (hash_full _ _ _ _ (by assumption) (by assumption)).mono ?_; rintro e w1 ⟨rfl, hx⟩; replace hB := keep_call hx (by simp) ⟨trivial, hB⟩; obtain ⟨⟨x0, x1⟩, -⟩ := hC.out _ hB; clear hx))
  go_upto_region 5 with (first | (go_at_call 6; refine (hash_full _ _ _ _ (by assumption) (by assumption)).mono ?_; rintro e w1 ⟨rfl, hx⟩; replace hB := keep_call hx (by simp) ⟨trivial, hB⟩; obtain ⟨⟨x0, x1⟩, -⟩ := hC.out _ hB; clear hx))
  generalize hashN (objN o) a b = H at q1 q2 q3 ⊢
  generalize hashN (objN (wrap64 (c : Int))) a b = A at q1 ⊢
  generalize hashN (objN o) c b = B at q2 ⊢
  generalize hashN (objN o) a c = D at q3 ⊢
  obtain ⟨p1, r1⟩ : ∃ p, (wrap64 (c : Int) == o) = p := ⟨_, rfl⟩
  obtain ⟨p2, r2⟩ : ∃ p, ((c : Int) == (a : Int)) = p := ⟨_, rfl⟩
  obtain ⟨p3, r3⟩ : ∃ p, ((c : Int) == (b : Int)) = p := ⟨_, rfl⟩
  have s1 := q1.out.trans r1
  have s2 := q2.out.trans r2
  have s3 := q3.out.trans r3
  clear q1 q2 q3
  go_wp2_with (first | (go_at_call 7; refine (alive_any _).mono ?_; rintro e w2 ⟨rfl, hx⟩; replace hB := keep_call hx (by simp) ⟨trivial, hB⟩; obtain ⟨⟨x0, x1⟩, -⟩ := hC.out _ hB; clear hx))
  go_ret
  exact ⟨rfl, below_box hB⟩
end Go.Proofs.Ytolfkpcehnincaa
