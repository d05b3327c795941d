import Derived.Test.YticgammbjcdobaaMB
namespace Go.Proofs.Yticgammbjcdobaa
open Go.RowKit
set_option linter.unusedVariables false
set_option linter.unusedSimpArgs false
abbrev I64 (x : Int) : Prop := -9223372036854775808 ≤ x ∧ x ≤ 9223372036854775807
abbrev U64 (x : Nat) : Prop := x < 18446744073709551616
theorem kint {x : Int} (h : I64 x) : Kv 3 (.int .i64 x) := ⟨_, Maps.keyOf_int_mk Try.underlying3 (WalkArith.wf_i64 (by omega))⟩
abbrev wdV (h l : Nat) : Value := .agg #[.int .u64 (h : Int), .int .u64 (l : Int)]
set_option maxRecDepth 100000 in
theorem kword {h l : Nat} (h1 : U64 h) (h2 : U64 l) : Kv 29 (wdV h l) := by
  have w2 : (Lit.int .u64 (h : Int)).wf = true := WalkArith.wf_u64 (by omega)
  have w3 : (Lit.int .u64 (l : Int)).wf = true := WalkArith.wf_u64 (by omega)
  have kt : Try.prog.keyType 29 = true := by kernel_rfl
  have c2 : Try.prog.cellsOf 29 = 2 := by kernel_rfl
  have c4 : Try.prog.cellsOf 27 = 1 := by kernel_rfl
  have n1 : Try.prog.types.size + 1 = (Try.prog.types.size - 1) + 2 := by have : 1 ≤ Try.prog.types.size := of_decide_eq_true (by kernel_rfl); omega
  have k2 : ∀ m, Try.prog.keyLits (m + 1) 27 [.int .u64 (h : Int)] = some [.int .u64 (h : Int)] := by intro m; simp [Program.keyLits, Try.underlying27, w2]
  have k3 : ∀ m, Try.prog.keyLits (m + 1) 27 [.int .u64 (l : Int)] = some [.int .u64 (l : Int)] := by intro m; simp [Program.keyLits, Try.underlying27, w3]
  have k4 : ∀ m, Try.prog.keyLits (m + 2) 29 [.int .u64 (h : Int), .int .u64 (l : Int)] = some [.int .u64 (h : Int), .int .u64 (l : Int)] := by
    intro m
    unfold Program.keyLits
    rw [Try.underlying29]
    simp [c2, c4, k2, k3]
  have hf : (wdV h l).formed Try.prog 29 = true := by
    simp [Value.formed, Try.underlying29, c2]
  refine ⟨.string (keyBytes [.int .u64 (h : Int), .int .u64 (l : Int)]), ?_⟩
  unfold keyOf
  rw [Try.underlying29]
  simp only
  rw [kt, hf, n1, show (wdV h l).cells.toList = [.int .u64 (h : Int), .int .u64 (l : Int)] from rfl, k4]
  rfl
theorem mapM_some {α β : Type} {f : α → Option β} : ∀ (l : List α), (∀ x ∈ l, ∃ y, f x = some y) → ∃ ys, l.mapM f = some ys
  | [], _ => ⟨[], by simp⟩
  | x :: l, h => by
    obtain ⟨y, hy⟩ := h x List.mem_cons_self
    obtain ⟨ys, hys⟩ := mapM_some l (fun z hz => h z (List.mem_cons_of_mem _ hz))
    exact ⟨y :: ys, by simp [List.mapM_cons, hy, hys]⟩
/-- A form: twenty-four bytes. -/
abbrev fmV (F : List Nat) : Value := .agg (u8s F).toArray
set_option maxRecDepth 100000 in
theorem kform {F : List Nat} (hl : F.length = 24) (hs : ∀ x ∈ F, x < 256) : Kv 95 (fmV F) := by
  have kt : Try.prog.keyType 95 = true := by kernel_rfl
  have c2 : Try.prog.cellsOf 95 = 24 := by kernel_rfl
  have c4 : Try.prog.cellsOf 5 = 1 := by kernel_rfl
  have n1 : Try.prog.types.size + 1 = (Try.prog.types.size - 1) + 2 := by have : 1 ≤ Try.prog.types.size := of_decide_eq_true (by kernel_rfl); omega
  have k4 : ∀ m, ∃ ls, Try.prog.keyLits (m + 2) 95 (u8s F) = some ls := by
    intro m
    obtain ⟨ys, hys⟩ := mapM_some (f := fun i => Try.prog.keyLits (m + 1) 5 (((u8s F).drop (i * 1)).take 1)) (List.range 24) (fun i hi => by
      have hi' : i < F.length := by rw [hl]; exact List.mem_range.1 hi
      have hb := hs F[i] (List.getElem_mem hi')
      have hw : (Lit.int .u8 (F[i] : Int)).wf = true := WalkArith.wf_u8 (by omega)
      have e : ((u8s F).drop (i * 1)).take 1 = [.int .u8 (F[i] : Int)] := by
        rw [Nat.mul_one, List.drop_eq_getElem_cons (by rw [u8s_length]; exact hi')]
        simp [u8s]
      refine ⟨[.int .u8 (F[i] : Int)], ?_⟩
      rw [e]
      simp [Program.keyLits, Try.underlying5, hw])
    refine ⟨ys.flatten, ?_⟩
    unfold Program.keyLits
    rw [Try.underlying95]
    simp only [c2, c4, u8s_length, hl, if_true]
    rw [hys]
    rfl
  have hf : (fmV F).formed Try.prog 95 = true := by
    simp [Value.formed, Try.underlying95, c2, u8s_length, hl]
  obtain ⟨ls, hls⟩ := k4 (Try.prog.types.size - 1)
  refine ⟨.string (keyBytes ls), ?_⟩
  unfold keyOf
  rw [Try.underlying95]
  simp only
  rw [kt, hf, n1, show (fmV F).cells.toList = u8s F from by simp [Value.cells], hls]
  rfl
theorem u8s_inj {F G : List Nat} (h : u8s F = u8s G) : F = G := by
  unfold u8s at h
  refine List.map_inj_right (f := fun (n : Nat) => Value.int .u8 (n : Int)) (fun a b e => ?_) |>.1 h
  simp at e
  omega
theorem fmV_inj {F G : List Nat} (h : fmV F = fmV G) : F = G := u8s_inj (by simpa using h)
theorem wdV_inj {a b c d : Nat} (h : wdV a b = wdV c d) : a = c ∧ b = d := by
  simp at h
  omega
end Go.Proofs.Yticgammbjcdobaa
