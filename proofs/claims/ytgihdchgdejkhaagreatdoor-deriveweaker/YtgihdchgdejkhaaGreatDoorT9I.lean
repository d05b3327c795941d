import Derived.Test.YtgihdchgdejkhaaGreatDoorT8I
namespace Go.Proofs.YtgihdchgdejkhaaGreatDoor.H.I
open Go.RowKit
set_option linter.unusedVariables false

def ForRel (w : World) (mo : Nat) (t : Value) (w' : World) : Prop := ∃ n : Nat, 2 ≤ n ∧ n < 4 * mo ∧ t = .int .i64 (n : Int) ∧ w' = w
set_option maxRecDepth 100000 in
set_option maxHeartbeats 1000000 in
theorem places_any (w : World) (mo : Nat) (h1 : 1 ≤ mo) (h2 : mo ≤ 256) :
    Calls Tryz.prog 81 #[.int .i64 (mo : Int)] w fun e w' => (∃ N : Nat, 2 * mo ≤ N ∧ N ≤ 1024 ∧ e = .returned (.int .i64 (N : Int))) ∧ w' = w := by
  go_enter Tryz.func81, Tryz.ntmps81
  go_wp2
  go_loopw [3] (ForRel w mo) (fun t _ => 1024 - (intOf t).toNat)
  case atStart => exact ⟨2, by omega, by omega, rfl, rfl⟩
  case round =>
    obtain ⟨n, hn, hn2, rfl, rfl⟩ := hrel
    by_cases hlt : n < 2 * mo
    · have hlt2 : (n : Int) < 2 * (mo : Int) := by omega
      go_wp2
      exact ⟨⟨n * 2, by omega, by omega, by go_num, rfl⟩, by simp [intOf]; omega⟩
    · have hlt2 : ¬ (n : Int) < 2 * (mo : Int) := by omega
      go_wp2
      go_ret
      exact ⟨⟨n, by omega, by omega, rfl⟩, rfl⟩
theorem info221 : (Tryz.prog.info? 221).map (fun i => (i.zero, i.size, i.bytes)) = some (some (.agg #[.int .i64 0, .int .i64 0, .int .u64 0, .int .u64 0, .int .i64 0]), 5, 40) := by kernel_rfl
/-- A free place. -/
def pz : Q := ⟨0, (0, 0, 0), 0⟩
theorem get_rep {n i : Nat} {p : Q} (h : (List.replicate n pz)[i]? = some p) : i < n ∧ p = pz := by
  rw [List.getElem?_replicate] at h
  split at h
  · next h1 => exact ⟨h1, (Option.some.inj h).symm⟩
  · cases h
theorem make_run (w : World) (n : Nat) (hn : n ≤ 1024) :
    ∃ w', (Instr.makeSlice 164 (.int .i64 (n : Int)) (.int .i64 (n : Int))).run Tryz.prog w = .ok (.slice (some ⟨w.heap.size, 0, none⟩) n n) w' ∧ (∀ (i : Nat) (p : Q), (List.replicate n pz)[i]? = some p → Pa w' w.heap.size (i * 5) p) ∧ (∀ j, w'.frozen? ⟨w.heap.size, j, none⟩ = false) ∧ w.heap.size < w'.heap.size ∧ Below w.heap.size w w' := by
  obtain ⟨i, hi, hz0, hz1, hz2⟩ := info_parts info221
  obtain ⟨w', hr, ho, hg⟩ := run_make_full (P := Tryz.prog) w w.heap.size 164 221 i _ 5 Tryz.underlying164 hi hz0 hz1 .i64 .i64 n (by rw [hz2]; omega) (by unfold maxLen; omega) (Nat.le_refl _)
  have hcell : ∀ j c u, j < n → c < 5 → (#[.int .i64 0, .int .i64 0, .int .u64 0, .int .u64 0, .int .i64 0] : Array Value)[c]! = u → w'.cell? ⟨w.heap.size, j * 5 + c, none⟩ = some u := by
    intro j c u hj hc hu
    have hm : (j * 5 + c) % 5 = c := by omega
    have := ho.cells (g := w.heap.size) rfl (j * 5 + c) u (by
      rw [Array.getElem?_toList]
      simp only [madeCells, Value.cells, Array.getElem?_map, Array.getElem?_range]
      rw [if_pos (by omega)]
      simp only [Option.map_some, Option.some.injEq, Array.size, List.length, hm]
      exact hu)
    rw [addr_add0] at this
    exact this
  refine ⟨w', hr, fun j p hp => ?_, fun j => ?_, ?_, (Below.refl _ _).grown hg (Nat.le_refl _) (fun k hk => by cases hk)⟩
  · obtain ⟨hj, rfl⟩ := get_rep hp
    exact ⟨hcell j 0 _ hj (by omega) rfl, hcell j 1 _ hj (by omega) rfl, hcell j 2 _ hj (by omega) rfl, hcell j 3 _ hj (by omega) rfl, hcell j 4 _ hj (by omega) rfl⟩
  · rcases ho.2 with ⟨h0, _⟩ | ⟨g, c, cur, hv, _, hh, hc, _⟩
    · simp at h0
    · simp only [Value.slice.injEq, Option.some.injEq, Addr.mk.injEq] at hv
      obtain ⟨⟨rfl, _⟩, _, rfl⟩ := hv
      simp [World.frozen?, hh]
  · exact (own_block ho _ rfl).2
theorem fre_rep (n : Nat) : fre (List.replicate n pz) = n := by
  unfold fre
  rw [List.countP_replicate]
  simp [pz]
theorem ents_rep (n : Nat) : ents (List.replicate n pz) = [] := by
  unfold ents
  rw [List.filterMap_eq_nil_iff]
  intro a ha
  rw [(List.mem_replicate.1 ha).2]
  simp [ent, pz]
/-- Behind New. -/
def Fresh (w : World) (kn mo : Nat) (e : Ending) (w' : World) : Prop :=
  ∃ g gb N : Nat, e = .returned (.tuple #[.pointer (some ⟨g, 0, none⟩), .int .i64 0]) ∧ Tb w' g gb kn mo N [] ∧ w.heap.size ≤ g ∧ w.heap.size ≤ gb ∧ Below w.heap.size w w'
set_option maxRecDepth 100000 in
set_option maxHeartbeats 1000000 in
theorem new_ok (w : World) (mo kn : Nat) (h1 : 1 ≤ mo) (h2 : mo ≤ 256) (h3 : kn ≤ 64) :
    Calls Tryz.prog 47 #[.int .i64 (mo : Int), .int .i64 (kn : Int)] w (Fresh w kn mo) := by
  have hk1 : ¬ (mo : Int) < 1 := by omega
  have hk2 : ¬ (256 : Int) < (mo : Int) := by omega
  have hk3 : ¬ (kn : Int) < 0 := by omega
  have hk4 : ¬ (64 : Int) < (kn : Int) := by omega
  go_enter Tryz.func47, Tryz.ntmps47
  go_upto_region 4 with (first | (go_at_call 81; refine (places_any _ mo h1 h2).mono ?_; rintro e w1 ⟨⟨N, hN1, hN2, rfl⟩, rfl⟩))
  obtain ⟨w2, hr, hA, hF, hsz, hb⟩ := make_run w1 N hN2
  have HA := hid hA
  have HFr := hid hF
  have HB := hid hb
  clear hA hF hb
  go_wp2
  refine bodyPost_ret (v := .tuple #[.pointer (some ⟨w2.heap.size, 0, none⟩), .int .i64 0]) (by simp [results, Tryz.results47, go_sem]) rfl ⟨w2.heap.size, w1.heap.size, N, rfl, ?_, HB.out.size, Nat.le_refl _, HB.out.alloc HB.out.size _⟩
  have hal := fun (p : Addr) (v : Value) (hv : w2.cell? p = some v) => cell_later (below1 w2 (Obj.cells #[.slice (some ⟨w1.heap.size, 0, none⟩) N N, .int .i64 (kn : Int), .int .i64 (mo : Int), .int .i64 0, .int .i64 (N : Int)] 166)) hv
  have hsh : But (fun _ => False) w2 (w2.alloc (Obj.cells #[.slice (some ⟨w1.heap.size, 0, none⟩) N N, .int .i64 (kn : Int), .int .i64 (mo : Int), .int .i64 0, .int .i64 (N : Int)] 166)) := But.of (below1 _ _)
  refine ⟨List.replicate N pz, N, ⟨by simp [go_sem], by simp [go_sem], by simp [go_sem], ⟨by simp [go_sem], by simp [go_sem]⟩, ⟨by simp [go_sem], by simp [go_sem]⟩, fun j => ?_, fun i p hp => (HA.out i p hp).but hsh (fun h => h), by omega, by simp, by omega, hN2, fun i p hp => ?_⟩, fun i p hp => ?_, fun i p hp hk => ?_, by rw [ents_rep], by simp, fre_rep N, Nat.zero_le _, h1, hN1⟩
  · rw [World.frozen?_of_block (w := w2) (hsh.block w1.heap.size hsz (fun h => h))]
    exact HFr.out j
  · rw [(get_rep hp).2]
    exact ⟨show (0 : Nat) < B64 by decide, show (0 : Nat) < B64 by decide⟩
  · rw [(get_rep hp).2]
    exact .inl rfl
  · rw [(get_rep hp).2] at hk
    exact absurd hk (show ¬ (0 : Int) = 1 by decide)
end Go.Proofs.YtgihdchgdejkhaaGreatDoor.H.I
