import Derived.Test.YtgihdchgdejkhaaGreatDoorDB
import Derived.Deep.DeepCutAuto
namespace Go.Proofs.YtgihdchgdejkhaaGreatDoor.D
open Go.Proofs.YtgihdchgdejkhaaGreatDoor.H (B64)
open Go.RowKit
set_option linter.unusedVariables false

/-- What the list's words are behind i of them. -/
def upTo (f : Nat → Nat) (width : Int) (i j : Nat) : Nat := if j < i then cutN (f j) width else 0
theorem upTo_zero (f : Nat → Nat) (width : Int) (j : Nat) : upTo f width 0 j = 0 := by unfold upTo; rw [if_neg (by omega)]
theorem upTo_succ (f : Nat → Nat) (width : Int) (i j : Nat) : upTo f width (i + 1) j = if j = i then cutN (f i) width else upTo f width i j := by
  unfold upTo
  by_cases h : j = i
  · subst h; rw [if_pos (by omega), if_pos rfl]
  · rw [if_neg h]
    by_cases h1 : j < i
    · rw [if_pos (by omega), if_pos h1]
    · rw [if_neg (by omega), if_neg h1]
theorem upTo_all (f : Nat → Nat) (width : Int) (n j : Nat) (h : j < n) : upTo f width n j = cutN (f j) width := by unfold upTo; rw [if_pos h]
def CutsRel (w : World) (n : Nat) (f : Nat → Nat) (width : Int) (gb : Nat) (t : Value) (w' : World) : Prop :=
  ∃ i : Nat, i ≤ n ∧ t = .int .i64 (i : Int) ∧ Ar w' gb n (upTo f width i) ∧ Below w.heap.size w w'

set_option maxRecDepth 100000 in
set_option maxHeartbeats 1000000 in
theorem cuts_any (a : Option Addr) (n cap : Nat) (f : Nat → Nat) (width : Int) (w : World) (h : Ws w a n cap f) (hn : n ≤ 4096) :
    Calls Tryz.prog 46 #[.slice a n cap, .int .i64 width] w fun e w' => e = .returned (.slice (some ⟨w.heap.size, 0, none⟩) n n) ∧ Ar w' w.heap.size n (fun j => cutN (f j) width) ∧ Below w.heap.size w w' := by
  obtain ⟨w1, hrun, ha, hb⟩ := make_run w 85 Tryz.underlying85 n hn
  have HA : Hid (Ar w1 w.heap.size n (fun _ => 0)) := ha
  have HB : Hid (Below w.heap.size w w1) := hb
  have HH : Hid (Ws w a n cap f) := h
  clear ha hb h
  go_enter Tryz.func46, Tryz.ntmps46
  go_upto_region 3 with fail
  go_loopw [13] (CutsRel w n f width w.heap.size) (fun t _ => n - (intOf t).toNat)
  case atStart => exact ⟨0, Nat.zero_le _, rfl, HA.out.congr (fun j _ => (upTo_zero f width j).symm), HB.out⟩
  case round =>
    obtain ⟨i, hi, rfl, hA, hB⟩ := hrel
    by_cases hlt : i < n
    · obtain ⟨b, o, rfl, hw⟩ := (HH.out.later hB).plain (by omega)
      have hsm := HH.out.small i
      obtain ⟨x0, x1⟩ := hw i hlt
      have HAr : Hid (Ar wr w.heap.size n (upTo f width i)) := hA
      clear hA hw
      go_wp2_with (first | (go_at_call 80; refine (cutP _ _ _ hsm).mono ?_; rintro e w2 ⟨rfl, hb2⟩; have A2 := (HAr.out.alloc _).later hb2; obtain ⟨q0, q1⟩ := A2.at_ i hlt; have q2 := A2.fr; have H2 : Hid (Ar w2 w.heap.size n (upTo f width i)) := A2; clear A2))
      refine ⟨⟨i + 1, by omega, by go_num, H2.out.set hlt (fun j _ => upTo_succ f width i j), ?_⟩, by simp [intOf]; omega⟩
      exact ((below_call (below_call hB (below1 _ _)) hb2).setCell (Nat.le_refl _) _).setCell (Nat.le_refl _) _
    · obtain rfl : i = n := by omega
      have HAr : Hid (Ar wr w.heap.size i (upTo f width i)) := hA
      clear hA
      go_wp2
      go_ret
      exact ⟨rfl, HAr.out.congr (fun j hj => upTo_all f width i j hj), hB⟩
end Go.Proofs.YtgihdchgdejkhaaGreatDoor.D
namespace Go.Proofs.YtgihdchgdejkhaaGreatDoor.D
open Go.Proofs.YtgihdchgdejkhaaGreatDoor.H (B64)
open Go.RowKit
set_option linter.unusedVariables false

set_option maxRecDepth 100000 in
set_option maxHeartbeats 1000000 in
theorem behind_more (gb n t : Nat) (w : World) (ht : t < n) (hn : n ≤ 4096) :
    Calls Tryz.prog 32 #[.slice (some ⟨gb, 0, none⟩) n n, .int .i64 (t : Int)] w fun e w' => e = .returned (.slice (some ⟨gb, t * 2, none⟩) (n - t) (n - t)) ∧ w' = w := by
  have h1 : (t : Int) ≤ (n : Int) := by omega
  have hne : ¬ n = t := by omega
  have hnb : (n == t) = false := by simpa using hne
  have hna : (n - t == 0) = false := by simp; omega
  go_enter Tryz.func32, Tryz.ntmps32
  go_wp2
  go_ret
  exact ⟨rfl, rfl⟩
set_option maxRecDepth 100000 in
set_option maxHeartbeats 1000000 in
theorem behind_end1 (gb n : Nat) (w : World) (hn : n ≤ 4096) :
    Calls Tryz.prog 32 #[.slice (some ⟨gb, 0, none⟩) n n, .int .i64 (n : Int)] w fun e w' => e = .returned (.slice (some ⟨gb, 0, none⟩) 0 0) ∧ w' = w := by
  go_enter Tryz.func32, Tryz.ntmps32
  go_wp2
  go_ret
  exact ⟨rfl, rfl⟩
theorem behind_end (gb n : Nat) (hn : n ≤ 4096) : ∃ x0, ∀ w : World, Calls Tryz.prog 32 #[.slice (some ⟨gb, 0, none⟩) n n, .int .i64 (n : Int)] w fun e w' => e = .returned (.slice x0 0 0) ∧ w' = w := ⟨_, fun w => behind_end1 gb n w hn⟩
/-- The program's draws: n words, t of them taken. -/
structure Dr (w : World) (g gb n : Nat) (c : Nat → Nat) (t : Nat) : Prop where
  all : w.cell? ⟨g, 0, none⟩ = some (.slice (some ⟨gb, 0, none⟩) n n)
  tk : Lies w ⟨g, 1, none⟩ (.int .i64 (t : Int))
  ar : ∀ i, i < n → Wd w gb (i * 2) (c i)
  ne : g ≠ gb
  le : t ≤ n
  big : n ≤ 4096
theorem Dr.but {S : Nat → Prop} {w w' : World} {g gb n : Nat} {c : Nat → Nat} {t : Nat} (hb : But S w w') (h : Dr w g gb n c t) (h1 : ¬ S g) (h2 : ¬ S gb) : Dr w' g gb n c t :=
  ⟨cell_but hb h.all h1, h.tk.but hb h1, fun i hi => (h.ar i hi).but hb h2, h.ne, h.le, h.big⟩
theorem Dr.later {w w' : World} {g gb n : Nat} {c : Nat → Nat} {t : Nat} (hb : Below w.heap.size w w') (h : Dr w g gb n c t) : Dr w' g gb n c t := h.but (S := fun _ => False) (But.of hb) (fun h => h) (fun h => h)
theorem Dr.alloc {w : World} {g gb n : Nat} {c : Nat → Nat} {t : Nat} (h : Dr w g gb n c t) (o : Obj) : Dr (w.alloc o) g gb n c t := h.later (below1 _ _)
theorem Dr.drew {w : World} {g gb n : Nat} {c : Nat → Nat} {t : Nat} (h : Dr w g gb n c t) : Dr w.drew g gb n c t := h.later (Below.refl _ _).drew
theorem Dr.lt {w : World} {g gb n : Nat} {c : Nat → Nat} {t : Nat} (h : Dr w g gb n c t) : g < w.heap.size := World.block_lt_of_cell? _ _ h.all
theorem Dr.put {w : World} {g gb n : Nat} {c : Nat → Nat} {t : Nat} (h : Dr w g gb n c t) {t' : Nat} (ht : t' ≤ n) : Dr (w.setCell ⟨g, 1, none⟩ (.int .i64 (t' : Int))) g gb n c t' :=
  ⟨cell_set_ne h.all (by omega), h.tk.put, fun i hi => by
    obtain ⟨h1, h2⟩ := h.ar i hi
    have hne := h.ne
    exact ⟨by rw [World.cell?_setCell_other _ _ _ _ (addr_ne (.inl hne))]; exact h1, by rw [World.cell?_setCell_other _ _ _ _ (addr_ne (.inl hne))]; exact h2⟩, h.ne, ht, h.big⟩

set_option maxRecDepth 100000 in
set_option maxHeartbeats 1000000 in
theorem new_ok (a : Option Addr) (n cap : Nat) (f : Nat → Nat) (width : Int) (w : World) (h : Ws w a n cap f) (h1 : 1 ≤ width) (h2 : width ≤ 128) (hn : n ≤ 4096) :
    Calls Tryz.prog 20 #[.slice a n cap, .int .i64 width] w fun e w' => ∃ g gb, e = .returned (.tuple #[.pointer (some ⟨g, 0, none⟩), .int .i64 0]) ∧ Dr w' g gb n (fun j => cutN (f j) width) 0 ∧ w.heap.size ≤ g ∧ w.heap.size ≤ gb ∧ gb < w'.heap.size ∧ Below w.heap.size w w' := by
  go_enter Tryz.func20, Tryz.ntmps20
  go_wp2_with (first | (go_at_call 46; refine (cuts_any _ _ _ f _ _ h hn).mono ?_; rintro e w1 ⟨rfl, hA, hb⟩))
  have hlt := hA.lt
  refine bodyPost_ret (v := .tuple #[.pointer (some ⟨w1.heap.size, 0, none⟩), .int .i64 0]) (by simp [results, Tryz.results20, go_sem]) rfl ⟨_, w.heap.size, rfl, ?_, hb.size, Nat.le_refl _, by simp; omega, hb.alloc hb.size _⟩
  exact ⟨by simp [go_sem], ⟨by simp [go_sem], by simp [go_sem]⟩, fun i hi => (hA.at_ i hi).later (below1 _ _), by omega, Nat.zero_le _, hn⟩
end Go.Proofs.YtgihdchgdejkhaaGreatDoor.D
namespace Go.Proofs.YtgihdchgdejkhaaGreatDoor.D
open Go.Proofs.YtgihdchgdejkhaaGreatDoor.H (B64)
open Go.RowKit
set_option linter.unusedVariables false

theorem _root_.Go.Proofs.YtgihdchgdejkhaaGreatDoor.But.own {a w : World} {g : Nat} (h : But (· = g) a w) (o : Nat) (u : Value) : But (· = g) a (w.setCell ⟨g, o, none⟩ u) := h.setCell (p := ⟨g, o, none⟩) (show g = g from rfl) u
theorem Dr.drewN {w : World} {g gb n : Nat} {c : Nat → Nat} {t : Nat} (h : Dr w g gb n c t) (k : Nat) : Dr (w.drewN k) g gb n c t := h.later (below_drewN (Below.refl _ _) _)
theorem Dr.fresh {w : World} {g gb n : Nat} {c : Nat → Nat} {t : Nat} (h : Dr w g gb n c t) {b : Nat} (h1 : g ≠ b) (h2 : gb ≠ b) (o : Nat) (u : Value) : Dr (w.setCell ⟨b, o, none⟩ u) g gb n c t :=
  h.but (S := (· = b)) ((But.refl (· = b) _).own _ _) h1 h2
set_option maxRecDepth 100000 in
set_option maxHeartbeats 1000000 in
theorem taken_any (g gb n : Nat) (c : Nat → Nat) (t : Nat) (w : World) (h : Dr w g gb n c t) :
    Calls Tryz.prog 12 #[.pointer (some ⟨g, 0, none⟩)] w fun e w' => e = .returned (.int .i64 (t : Int)) ∧ w' = w := by
  have x := h.tk.1
  go_enter Tryz.func12, Tryz.ntmps12
  go_wp2
  go_ret
  exact ⟨rfl, rfl⟩
set_option maxRecDepth 100000 in
set_option maxHeartbeats 1000000 in
theorem left_any (g gb n : Nat) (c : Nat → Nat) (t : Nat) (w : World) (h : Dr w g gb n c t) :
    Calls Tryz.prog 17 #[.pointer (some ⟨g, 0, none⟩)] w fun e w' => e = .returned (.int .i64 ((n - t : Nat) : Int)) ∧ Below w.heap.size w w' := by
  have x := h.tk.1
  have y := h.all
  have hn := h.big
  have hle := h.le
  clear h
  by_cases ht : t < n
  · go_enter Tryz.func17, Tryz.ntmps17
    go_wp2
    go_quiet (first | (go_at_call 32; refine Calls.quiet_of_same (behind_more gb n t _ ht hn)))
    go_wp2
    go_ret
    exact ⟨rfl, below_drewN (Below.refl _ _) _⟩
  · obtain rfl : t = n := by omega
    obtain ⟨x0, hx0⟩ : ∃ x0, ∀ w : World, Calls Tryz.prog 32 #[.slice (some ⟨gb, 0, none⟩) t t, .int .i64 (t : Int)] w fun e w' => e = .returned (.slice x0 0 0) ∧ w' = w := behind_end gb t hn
    rw [Nat.sub_self]
    go_enter Tryz.func17, Tryz.ntmps17
    go_wp2
    go_quiet (first | (go_at_call 32; refine Calls.quiet_of_same (hx0 _)))
    go_wp2
    go_ret
    exact ⟨rfl, below_drewN (Below.refl _ _) _⟩
set_option maxRecDepth 100000 in
set_option maxHeartbeats 1000000 in
theorem draw_more (g gb n : Nat) (c : Nat → Nat) (t : Nat) (w : World) (h : Dr w g gb n c t) (ht : t < n) :
    Calls Tryz.prog 53 #[.pointer (some ⟨g, 0, none⟩)] w fun e w' => e = .returned (.tuple #[.agg #[.int .u64 (hiI (c t)), .int .u64 (loI (c t))], .int .i64 0]) ∧ Dr w' g gb n c (t + 1) ∧ But (· = g) w w' := by
  have x := (h.alloc (.cells #[.int .u64 0, .int .u64 0] 30)).tk.1
  have x2 := (h.alloc (.cells #[.int .u64 0, .int .u64 0] 30)).tk.2
  have y := (h.alloc (.cells #[.int .u64 0, .int .u64 0] 30)).all
  obtain ⟨q0, q1⟩ := (h.alloc (.cells #[.int .u64 0, .int .u64 0] 30)).ar t ht
  have hn := h.big
  have hlt := h.lt
  have hne := h.ne
  have H : Hid (Dr w g gb n c t) := h
  clear h
  go_enter Tryz.func53, Tryz.ntmps53
  go_wp2
  go_quiet (first | (go_at_call 32; refine Calls.quiet_of_same (behind_more gb n t _ ht hn)))
  go_wp2
  have hgb : gb < w.heap.size := World.block_lt_of_cell? _ _ ((H.out.ar t ht).1)
  have hD := ((((H.out.alloc (Obj.cells #[Value.int IntKind.u64 0, Value.int IntKind.u64 0] 30)).drewN nq).put (t' := t + 1) (by omega)).fresh (b := w.heap.size) (by omega) (by omega) 0 (.int .u64 (hiI (c t)))).fresh (b := w.heap.size) (by omega) (by omega) 1 (.int .u64 (loI (c t)))
  have hB : But (· = g) w ((((((w.alloc (Obj.cells #[Value.int IntKind.u64 0, Value.int IntKind.u64 0] 30)).drewN nq).setCell ⟨g, 1, none⟩ (.int .i64 ((t + 1 : Nat) : Int))).setCell ⟨w.heap.size, 0, none⟩ (.int .u64 (hiI (c t)))).setCell ⟨w.heap.size, 1, none⟩ (.int .u64 (loI (c t))))) :=
    ((((But.of (S := (· = g)) (below_drewN (below1 _ _) _)).own _ _).put (p := ⟨w.heap.size, 0, none⟩) (Nat.le_refl _) _).put (p := ⟨w.heap.size, 1, none⟩) (Nat.le_refl _) _)
  rw [Int.natCast_succ] at hD hB
  refine bodyPost_ret (v := .tuple #[.agg #[.int .u64 (hiI (c t)), .int .u64 (loI (c t))], .int .i64 0]) ?_ rfl ⟨rfl, hD, hB⟩
  simp [results, Tryz.results53, go_sem]
set_option maxRecDepth 100000 in
set_option maxHeartbeats 1000000 in
theorem draw_end (g gb n : Nat) (c : Nat → Nat) (w : World) (h : Dr w g gb n c n) :
    Calls Tryz.prog 53 #[.pointer (some ⟨g, 0, none⟩)] w fun e w' => e = .returned (.tuple #[.agg #[.int .u64 0, .int .u64 0], .int .i64 11]) ∧ Below w.heap.size w w' := by
  have x := (h.alloc (.cells #[.int .u64 0, .int .u64 0] 30)).tk.1
  have y := (h.alloc (.cells #[.int .u64 0, .int .u64 0] 30)).all
  have hn := h.big
  clear h
  obtain ⟨x0, hx0⟩ : ∃ x0, ∀ w : World, Calls Tryz.prog 32 #[.slice (some ⟨gb, 0, none⟩) n n, .int .i64 (n : Int)] w fun e w' => e = .returned (.slice x0 0 0) ∧ w' = w := behind_end gb n hn
  go_enter Tryz.func53, Tryz.ntmps53
  go_wp2
  go_quiet (first | (go_at_call 32; refine Calls.quiet_of_same (hx0 _)))
  go_wp2
  exact bodyPost_ret (v := .tuple #[.agg #[.int .u64 0, .int .u64 0], .int .i64 11]) (by simp [results, Tryz.results53, go_sem]) rfl ⟨rfl, (((below_drewN (below1 _ _) _).setCell (Nat.le_refl _) _).setCell (Nat.le_refl _) _)⟩
end Go.Proofs.YtgihdchgdejkhaaGreatDoor.D
namespace Go.Proofs.YtgihdchgdejkhaaGreatDoor.D
open Go.Proofs.YtgihdchgdejkhaaGreatDoor.H (B64)
open Go.RowKit
set_option linter.unusedVariables false

end Go.Proofs.YtgihdchgdejkhaaGreatDoor.D
namespace Go.Proofs.YtgihdchgdejkhaaGreatDoor.D
open Go.Proofs.YtgihdchgdejkhaaGreatDoor.H (B64)
open Go.RowKit
set_option linter.unusedVariables false

/-- The words in memory of their own. -/
theorem copy_run {w : World} {x : Option Addr} {k cap : Nat} {f : Nat → Nat} (h : Ws w x k cap f) (hk : k * 16 ≤ 140737488355328) (bk : Nat) (hbk : bk = w.heap.size) :
    ∃ g1 c1 w1, (Builtin.append_ #[22, 22] 22 #[.slice (some ⟨bk, 0, none⟩) 0 0, .slice x k cap]).run Tryz.prog (w.alloc (.cells #[] 30)) = .ok (.slice (some ⟨g1, 0, none⟩) k c1) w1 ∧ w1.ownsRow w.heap.size 30 2 (.slice (some ⟨g1, 0, none⟩) k c1) k (wvs f k) ∧ Below w.heap.size w w1 := by
  subst hbk
  obtain ⟨i, hi, hz0, hz1, hz2⟩ := info_parts info30
  have o0 : (w.alloc (.cells #[] 30)).ownsRow w.heap.size 30 2 (.slice (some ⟨w.heap.size, 0, none⟩) 0 0) 0 [] := ⟨rfl, .inr ⟨_, _, _, rfl, Nat.le_refl _, heap_alloc_new w _, Nat.le_refl _, by unfold maxLen; omega, rfl, rfl⟩⟩
  cases x with
  | none =>
    obtain ⟨rfl, rfl⟩ := h.none_ rfl
    exact ⟨_, _, _, run_append_owned_none (P := Tryz.prog) (w := w.alloc (.cells #[] 30)) w.heap.size 22 22 30 i 2 Tryz.underlying22 hi _ 0 _ o0, o0, below1 _ _⟩
  | some y =>
    obtain ⟨v1, w1, hr, h2, h3, h4, _⟩ := run_append_own_at (P := Tryz.prog) (w.alloc (.cells #[] 30)) w.heap.size 22 22 30 i _ 2 16 Tryz.underlying22 hi hz0 hz1 hz2 rfl (by decide) _ 0 _ o0 y k cap (wvs f k) (wvs_length f k) (fun j u hu => cell_later (below1 _ _) (h.cells y rfl j u hu)) (wvs_one f k) (by unfold maxLen; omega) (by omega) (by simp)
    rw [Nat.zero_add] at h2
    have hb : Below w.heap.size w w1 := (below1 _ _).trans ((Below.refl _ _).grown h3 (by simp) (own_block o0))
    obtain ⟨g1, c1, rfl⟩ : ∃ g1 c1, v1 = .slice (some ⟨g1, 0, none⟩) k c1 := by
      rcases h2.2 with ⟨h, h'⟩ | ⟨g, c, cur, hv, _⟩
      · exact absurd (h4.1 h).1 (by simp)
      · exact ⟨g, c, hv⟩
    exact ⟨g1, c1, w1, hr, by simpa using h2, hb⟩
end Go.Proofs.YtgihdchgdejkhaaGreatDoor.D
namespace Go.Proofs.YtgihdchgdejkhaaGreatDoor.D
open Go.Proofs.YtgihdchgdejkhaaGreatDoor.H (B64)
open Go.RowKit
set_option linter.unusedVariables false

/-- The width brought into what may be. -/
theorem width_in (v : Int) : ∃ W : Int, 1 + v.tmod 128 % 128 = W ∧ 1 ≤ W ∧ W ≤ 128 := by
  exact ⟨_, rfl, by omega, by omega⟩
/-- How many words are taken of the list. -/
theorem first_n {w : World} {a : Option Addr} {n0 cap : Nat} {f : Nat → Nat} (h : Ws w a n0 cap f) (k : Nat) (hk : 0 < k) : ∃ n, n ≤ k ∧ Ws w a n cap f ∧ (n0 ≤ k ∧ n = n0 ∨ k < n0 ∧ n = k) := by
  by_cases h1 : n0 ≤ k
  · exact ⟨n0, h1, h, .inl ⟨h1, rfl⟩⟩
  · exact ⟨k, Nat.le_refl _, h.take (by omega) hk, .inr ⟨by omega, rfl⟩⟩
theorem left_int (g gb n : Nat) (c : Nat → Nat) (t : Nat) (w : World) (h : Dr w g gb n c t) :
    Calls Tryz.prog 17 #[.pointer (some ⟨g, 0, none⟩)] w fun e w' => e = .returned (.int .i64 ((n : Int) - (t : Int))) ∧ Below w.heap.size w w' := by
  refine (left_any g gb n c t w h).mono ?_
  rintro e w' ⟨rfl, hb⟩
  have := h.le
  exact ⟨ret_int (by omega), hb⟩
theorem left_end (g gb n : Nat) (c : Nat → Nat) (w : World) (h : Dr w g gb n c n) :
    Calls Tryz.prog 17 #[.pointer (some ⟨g, 0, none⟩)] w fun e w' => e = .returned (.int .i64 0) ∧ Below w.heap.size w w' := by
  refine (left_any g gb n c n w h).mono ?_
  rintro e w' ⟨rfl, hb⟩
  exact ⟨ret_int (by omega), hb⟩
end Go.Proofs.YtgihdchgdejkhaaGreatDoor.D
namespace Go.Proofs.YtgihdchgdejkhaaGreatDoor.D
open Go.Proofs.YtgihdchgdejkhaaGreatDoor.H (B64)
open Go.RowKit
set_option linter.unusedVariables false

/-- The document's draws: n words as they were given, the width, t of them taken. -/
structure Dw (w : World) (g gb n : Nat) (f : Nat → Nat) (W : Int) (t : Nat) : Prop where
  all : ∃ a cap, w.cell? ⟨g, 0, none⟩ = some (.slice a n cap) ∧ n ≤ cap ∧ (0 < n → a = some ⟨gb, 0, none⟩)
  wid : w.cell? ⟨g, 1, none⟩ = some (.int .i64 W)
  tk : Lies w ⟨g, 2, none⟩ (.int .i64 (t : Int))
  ar : ∀ i, i < n → Wd w gb (i * 2) (f i)
  ne : 0 < n → g ≠ gb
  le : t ≤ n
  big : n ≤ 4096
  small : ∀ i, f i < B64 * B64
theorem Dw.but {S : Nat → Prop} {w w' : World} {g gb n : Nat} {f : Nat → Nat} {W : Int} {t : Nat} (hb : But S w w') (h : Dw w g gb n f W t) (h1 : ¬ S g) (h2 : 0 < n → ¬ S gb) : Dw w' g gb n f W t := by
  obtain ⟨a, cap, ha, hc, hz⟩ := h.all
  exact ⟨⟨a, cap, cell_but hb ha h1, hc, hz⟩, cell_but hb h.wid h1, h.tk.but hb h1, fun i hi => (h.ar i hi).but hb (h2 (by omega)), h.ne, h.le, h.big, h.small⟩
theorem Dw.later {w w' : World} {g gb n : Nat} {f : Nat → Nat} {W : Int} {t : Nat} (hb : Below w.heap.size w w') (h : Dw w g gb n f W t) : Dw w' g gb n f W t := h.but (S := fun _ => False) (But.of hb) (fun h => h) (fun _ h => h)
theorem Dw.alloc {w : World} {g gb n : Nat} {f : Nat → Nat} {W : Int} {t : Nat} (h : Dw w g gb n f W t) (o : Obj) : Dw (w.alloc o) g gb n f W t := h.later (below1 _ _)
theorem Dw.drewN {w : World} {g gb n : Nat} {f : Nat → Nat} {W : Int} {t : Nat} (h : Dw w g gb n f W t) (k : Nat) : Dw (w.drewN k) g gb n f W t := h.later (below_drewN (Below.refl _ _) _)
theorem Dw.drew {w : World} {g gb n : Nat} {f : Nat → Nat} {W : Int} {t : Nat} (h : Dw w g gb n f W t) : Dw w.drew g gb n f W t := h.later (Below.refl _ _).drew
theorem Dw.lt {w : World} {g gb n : Nat} {f : Nat → Nat} {W : Int} {t : Nat} (h : Dw w g gb n f W t) : g < w.heap.size := World.block_lt_of_cell? _ _ h.wid
theorem Dw.lt2 {w : World} {g gb n : Nat} {f : Nat → Nat} {W : Int} {t : Nat} (h : Dw w g gb n f W t) (h0 : 0 < n) : gb < w.heap.size := World.block_lt_of_cell? _ _ (h.ar 0 h0).1
theorem Dw.put {w : World} {g gb n : Nat} {f : Nat → Nat} {W : Int} {t : Nat} (h : Dw w g gb n f W t) {t' : Nat} (ht : t' ≤ n) : Dw (w.setCell ⟨g, 2, none⟩ (.int .i64 (t' : Int))) g gb n f W t' := by
  obtain ⟨a, cap, ha, hc, hz⟩ := h.all
  refine ⟨⟨a, cap, cell_set_ne ha (by omega), hc, hz⟩, cell_set_ne h.wid (by omega), h.tk.put, fun i hi => ?_, h.ne, ht, h.big, h.small⟩
  obtain ⟨h1, h2⟩ := h.ar i hi
  have hne := h.ne (by omega)
  exact ⟨by rw [World.cell?_setCell_other _ _ _ _ (addr_ne (.inl hne))]; exact h1, by rw [World.cell?_setCell_other _ _ _ _ (addr_ne (.inl hne))]; exact h2⟩
theorem Dw.fresh {w : World} {g gb n : Nat} {f : Nat → Nat} {W : Int} {t : Nat} (h : Dw w g gb n f W t) {b : Nat} (h1 : g ≠ b) (h2 : 0 < n → gb ≠ b) (o : Nat) (u : Value) : Dw (w.setCell ⟨b, o, none⟩ u) g gb n f W t :=
  h.but (S := (· = b)) ((But.refl (· = b) _).own _ _) h1 h2

/-- The words are appended to nothing. -/
theorem nil_run {w : World} {x : Option Addr} {k cap : Nat} {f : Nat → Nat} (h : Ws w x k cap f) (hk : k ≤ 4096) :
    ∃ a1 g1 c1 w1, (Builtin.append_ #[22, 22] 22 #[.slice none 0 0, .slice x k cap]).run Tryz.prog w = .ok (.slice a1 k c1) w1 ∧ k ≤ c1 ∧ (0 < k → a1 = some ⟨g1, 0, none⟩ ∧ Ar w1 g1 k f ∧ w.heap.size ≤ g1) ∧ Below w.heap.size w w1 := by
  obtain ⟨i, hi, hz0, hz1, hz2⟩ := info_parts info30
  have o0 : w.ownsRow w.heap.size 30 2 (.slice none 0 0) 0 [] := ⟨rfl, .inl ⟨rfl, rfl⟩⟩
  cases x with
  | none =>
    obtain ⟨rfl, rfl⟩ := h.none_ rfl
    exact ⟨_, 0, _, _, run_append_owned_none (P := Tryz.prog) (w := w) w.heap.size 22 22 30 i 2 Tryz.underlying22 hi _ 0 _ o0, Nat.le_refl _, fun h => by omega, Below.refl _ _⟩
  | some y =>
    obtain ⟨v1, w1, hr, h2, h3, h4, _⟩ := run_append_own_at (P := Tryz.prog) w w.heap.size 22 22 30 i _ 2 16 Tryz.underlying22 hi hz0 hz1 hz2 rfl (by decide) _ 0 _ o0 y k cap (wvs f k) (wvs_length f k) (fun j u hu => h.cells y rfl j u hu) (wvs_one f k) (by unfold maxLen; omega) (by omega) (Nat.le_refl _)
    rw [Nat.zero_add] at h2
    have hb : Below w.heap.size w w1 := (Below.refl _ _).grown h3 (Nat.le_refl _) (own_block o0)
    rcases h2.2 with ⟨rfl, rfl⟩ | ⟨g, c, cur, rfl, hg, _, hc, _⟩
    · exact ⟨none, 0, 0, w1, hr, Nat.le_refl _, fun h => by omega, hb⟩
    · obtain ⟨ha, hb1, hb2⟩ := ar_of (by simpa using h2)
      exact ⟨_, g, c, w1, hr, hc, fun _ => ⟨rfl, ha, hb1⟩, hb⟩
set_option maxRecDepth 100000 in
set_option maxHeartbeats 1000000 in
theorem rnew_ok (a : Option Addr) (n cap : Nat) (f : Nat → Nat) (width : Int) (w : World) (h : Ws w a n cap f) (h1 : 1 ≤ width) (h2 : width ≤ 128) (hn : n ≤ 4096) :
    Calls Tryz.prog 23 #[.slice a n cap, .int .i64 width] w fun e w' => ∃ g gb, e = .returned (.tuple #[.pointer (some ⟨g, 0, none⟩), .int .i64 0]) ∧ Dw w' g gb n f width 0 ∧ w.heap.size ≤ g ∧ (0 < n → w.heap.size ≤ gb) ∧ Below w.heap.size w w' := by
  obtain ⟨a1, g1, c1, w1, hrun, hc1, hA, hb⟩ := nil_run h hn
  have HA : Hid (0 < n → a1 = some ⟨g1, 0, none⟩ ∧ Ar w1 g1 n f ∧ w.heap.size ≤ g1) := hA
  have HB : Hid (Below w.heap.size w w1) := hb
  clear hA hb
  go_enter Tryz.func23, Tryz.ntmps23
  go_wp2_with (first | (at_builtin; refine wpList_append_known rfl _ _ 22 rfl _ _ rfl rfl _ _ hrun ?_))
  refine bodyPost_ret (v := .tuple #[.pointer (some ⟨w1.heap.size, 0, none⟩), .int .i64 0]) (by simp [results, Tryz.results23, go_sem]) rfl ⟨_, g1, rfl, ?_, HB.out.size, fun h0 => (HA.out h0).2.2, HB.out.alloc HB.out.size _⟩
  exact ⟨⟨a1, c1, by simp [go_sem], hc1, fun h0 => (HA.out h0).1⟩, by simp [go_sem], ⟨by simp [go_sem], by simp [go_sem]⟩, fun i hi => ((HA.out (by omega)).2.1.at_ i hi).later (below1 _ _), fun h0 => by have := (HA.out h0).2.1.lt; omega, Nat.zero_le _, hn, h.small⟩
set_option maxRecDepth 100000 in
set_option maxHeartbeats 1000000 in
theorem rdraw_end (g gb n : Nat) (f : Nat → Nat) (W : Int) (w : World) (h : Dw w g gb n f W n) :
    Calls Tryz.prog 67 #[.pointer (some ⟨g, 0, none⟩)] w fun e w' => e = .returned (.tuple #[.agg #[.int .u64 0, .int .u64 0], .int .i64 11]) ∧ Below w.heap.size w w' := by
  have x := (h.alloc (.cells #[.int .u64 0, .int .u64 0] 30)).tk.1
  obtain ⟨a, cap, y, hc, hz⟩ := (h.alloc (.cells #[.int .u64 0, .int .u64 0] 30)).all
  clear h hz
  go_enter Tryz.func67, Tryz.ntmps67
  go_wp2
  go_quiet (fail)
  go_wp2
  exact bodyPost_ret (v := .tuple #[.agg #[.int .u64 0, .int .u64 0], .int .i64 11]) (by simp [results, Tryz.results67, go_sem]) rfl ⟨rfl, (((below_drewN (below1 _ _) _).setCell (Nat.le_refl _) _).setCell (Nat.le_refl _) _)⟩
end Go.Proofs.YtgihdchgdejkhaaGreatDoor.D
namespace Go.Proofs.YtgihdchgdejkhaaGreatDoor.D
open Go.Proofs.YtgihdchgdejkhaaGreatDoor.H (B64)
open Go.RowKit
set_option linter.unusedVariables false

set_option maxRecDepth 100000 in
set_option maxHeartbeats 2000000 in
theorem rdraw_more (g gb n : Nat) (f : Nat → Nat) (W : Int) (t : Nat) (w : World) (h : Dw w g gb n f W t) (ht : t < n) :
    Calls Tryz.prog 67 #[.pointer (some ⟨g, 0, none⟩)] w fun e w' => e = .returned (.tuple #[.agg #[.int .u64 (hiI (cutN (f t) W)), .int .u64 (loI (cutN (f t) W))], .int .i64 0]) ∧ Dw w' g gb n f W (t + 1) ∧ But (· = g) w w' := by
  have x := (h.alloc (.cells #[.int .u64 0, .int .u64 0] 30)).tk.1
  have x2 := (h.alloc (.cells #[.int .u64 0, .int .u64 0] 30)).tk.2
  have hlt := h.lt
  have hgb := h.lt2 (by omega)
  have hne := h.ne (by omega)
  have hn := h.big
  have hsm := h.small t
  obtain ⟨a, cap, y, hc, hz⟩ := (h.alloc (.cells #[.int .u64 0, .int .u64 0] 30)).all
  obtain rfl := hz (by omega)
  have hd1 : ((t : Int) == (n : Int)) = false := by simp; omega
  have H : Hid (Dw w g gb n f W t) := h
  clear h hz
  go_enter Tryz.func67, Tryz.ntmps67
  go_wp2
  go_quiet (fail)
  go_upto_region 4 with fail
  obtain ⟨v, hv⟩ : ∃ v, v = (((w.alloc (Obj.cells #[Value.int IntKind.u64 0, Value.int IntKind.u64 0] 30)).drewN nq).setCell ⟨g, 2, none⟩ (.int .i64 ((t : Int) + 1))) := ⟨_, rfl⟩
  rw [← hv]
  have DV : Dw v g gb n f W (t + 1) := by
    have := ((H.out.alloc (Obj.cells #[Value.int IntKind.u64 0, Value.int IntKind.u64 0] 30)).drewN nq).put (t' := t + 1) (by omega)
    rw [Int.natCast_succ] at this
    rw [hv]
    exact this
  have BV : But (· = g) w v := by
    rw [hv]
    exact (But.of (S := (· = g)) (below_drewN (below1 _ _) _)).own _ _
  have L0 : Lies v ⟨w.heap.size, 0, none⟩ (.int .u64 0) := by
    rw [hv]
    exact Lies.keep ((lies_new (by rfl)).later (below_drewN (Below.refl _ _) _)) (addr_ne (.inl (by omega)))
  have L1 : Lies v ⟨w.heap.size, 1, none⟩ (.int .u64 0) := by
    rw [hv]
    exact Lies.keep ((lies_new (by rfl)).later (below_drewN (Below.refl _ _) _)) (addr_ne (.inl (by omega)))
  have y0 : v.cell? ⟨g, 0, none⟩ = some (.slice (some ⟨gb, 0, none⟩) n cap) := by
    rw [hv]
    exact cell_set_ne (cell_later (below_drewN (Below.refl _ _) _) y) (by omega)
  have HH : Hid (Dw v g gb n f W (t + 1) ∧ But (· = g) w v ∧ w.heap.size < v.heap.size) := ⟨DV, BV, World.block_lt_of_cell? _ _ L0.1⟩
  have HS : Hid (∀ w' : World, But (· = w.heap.size) v w' → (w'.cell? ⟨g, 0, none⟩ = some (.slice (some ⟨gb, 0, none⟩) n cap) ∧ w'.cell? ⟨g, 1, none⟩ = some (.int .i64 W) ∧ w'.cell? ⟨g, 2, none⟩ = some (.int .i64 ((t : Int) + 1)) ∧ w'.cell? ⟨gb, t * 2, none⟩ = some (.int .u64 (hiI (f t))) ∧ w'.cell? ⟨gb, t * 2 + 1, none⟩ = some (.int .u64 (loI (f t)))) ∧ But (· = w.heap.size) v w') := by
    intro w' hb
    obtain ⟨p0, p1⟩ := DV.ar t ht
    have q := DV.tk.1
    rw [Int.natCast_succ] at q
    have n1 : ¬ g = w.heap.size := by omega
    have n2 : ¬ gb = w.heap.size := by omega
    exact ⟨⟨cell_but hb y0 n1, cell_but hb DV.wid n1, cell_but hb q n1, cell_but hb p0 n2, cell_but hb p1 n2⟩, hb⟩
  have HL : Hid (∀ w' : World, Below v.heap.size v w' → (w'.cell? ⟨w.heap.size, 0, none⟩ = some (.int .u64 0) ∧ w'.cell? ⟨w.heap.size, 1, none⟩ = some (.int .u64 0) ∧ w'.frozen? ⟨w.heap.size, 0, none⟩ = false ∧ w'.frozen? ⟨w.heap.size, 1, none⟩ = false)) := fun w' hb => ⟨cell_later hb L0.1, cell_later hb L1.1, (L0.later hb).2, (L1.later hb).2⟩
  have hsz : t + 1 ≤ n := by omega
  have hti : (t : Int) < (n : Int) := by omega
  have h0i : (0 : Int) ≤ (t : Int) := by omega
  have hw1 : IntKind.i64.wrap ((t : Int) + 1 - 1) = (t : Int) := by rw [IntKind.wrap_i64]; omega
  have hw2 : IntKind.i64.wrap (t : Int) = (t : Int) := by rw [IntKind.wrap_i64]; omega
  clear hv DV BV L0 L1 y0 x x2 y
  go_region_held3 (fun w' => (w'.cell? ⟨g, 0, none⟩ = some (.slice (some ⟨gb, 0, none⟩) n cap) ∧ w'.cell? ⟨g, 1, none⟩ = some (.int .i64 W) ∧ w'.cell? ⟨g, 2, none⟩ = some (.int .i64 ((t : Int) + 1)) ∧ w'.cell? ⟨gb, t * 2, none⟩ = some (.int .u64 (hiI (f t))) ∧ w'.cell? ⟨gb, t * 2 + 1, none⟩ = some (.int .u64 (loI (f t)))) ∧ But (· = w.heap.size) v w') (first | exact HS.out _ (But.of (Below.refl _ _).drew) | exact HS.out _ ((And.right (by assumption) : But (· = w.heap.size) v v.drew).call hb9) | exact HS.out _ (((And.right (by assumption) : But (· = w.heap.size) v w9).own _ _).own _ _)) (first | (go_at_call 99; refine (cutR _ _ _ hsm).mono ?_; rintro e w9 ⟨rfl, hb9⟩; obtain ⟨l0, l1, l2, l3⟩ := HL.out w9 (below_call (Below.refl _ _).drew hb9)))
  go_wp2
  obtain ⟨DV, BV, hsv⟩ := HH.out
  have D9 := ((DV.drew.later hb9).fresh (b := w.heap.size) (by omega) (fun _ => by omega) 0 (.int .u64 (hiI (cutN (f t) W)))).fresh (b := w.heap.size) (by omega) (fun _ => by omega) 1 (.int .u64 (loI (cutN (f t) W)))
  have B9 := (((BV.call (Below.refl _ _).drew).call hb9).put (p := ⟨w.heap.size, 0, none⟩) (Nat.le_refl _) (.int .u64 (hiI (cutN (f t) W)))).put (p := ⟨w.heap.size, 1, none⟩) (Nat.le_refl _) (.int .u64 (loI (cutN (f t) W)))
  exact bodyPost_ret (v := .tuple #[.agg #[.int .u64 (hiI (cutN (f t) W)), .int .u64 (loI (cutN (f t) W))], .int .i64 0]) (by simp [results, Tryz.results67, go_sem, l0, l1]) rfl ⟨rfl, D9, B9⟩
end Go.Proofs.YtgihdchgdejkhaaGreatDoor.D
