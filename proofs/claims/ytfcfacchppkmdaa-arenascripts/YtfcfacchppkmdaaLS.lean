import Derived.Test.YtfcfacchppkmdaaS6
namespace Go.Proofs.Ytfcfacchppkmdaa
open Go.RowKit
set_option linter.unusedVariables false
set_option linter.unusedSimpArgs false

/-- A call of the script, as it came in. -/
structure OpIn (w : World) (o : Ops) : Prop where
  rl : Row w o.la o.ml o.cl (ints o.l)
  rd : Row w o.da o.md o.cd (u8s o.D)
  small : ∀ x ∈ o.D, x < 256
  hl : (o.ml + 80) * 8 ≤ 140737488355328
  hd : o.md + 120 ≤ 140737488355328
  ho : -9223372036854775808 ≤ o.of ∧ o.of < 9223372036854775808
theorem OpIn.ok {w w' : World} {g pb r rb : Nat} {o : Ops} (h : OpIn w o) (hb : Below w.heap.size w w') (hO : ∀ k, Ours g pb r rb k → w.heap.size ≤ k) : OpOk w' g pb r rb o :=
  ⟨h.rl.later hb, h.rd.later hb, h.small, h.hl, h.hd, fun h0 k hk e => by have h1 := blk_lt h.rl h0 k hk; have h2 := hO k e; omega, fun h0 k hk e => by have h1 := blk_lt h.rd h0 k hk; have h2 := hO k e; omega, h.ho⟩
/-- The script. -/
structure Scr (w : World) (x : Option Addr) (k cap : Nat) (f : Nat → Ops) : Prop where
  cap_ : k ≤ cap
  plain : 0 < k → ∃ b o, x = some ⟨b, o, none⟩ ∧ ∀ i, i < k → w.rangeAt b (o + i * 6) (opCells (f i)).toList
  ok : ∀ i, i < k → OpIn w (f i)
theorem step_any (g pb r rb n : Nat) (t : Nat → Bool) (B C : Nat → Nat → Nat) (o : Ops) (w : World) (h : Duo w g pb r rb n t B C) (hO : OpOk w g pb r rb o) :
    Calls Try.prog 20 #[.pointer (some ⟨g, 0, none⟩), .pointer (some ⟨r, 0, none⟩), .agg (opCells o)] w fun e w' => e = .returned (.bool true) ∧ Left g pb r rb n w w' := by
  by_cases h1 : o.kd = 1
  · exact step_1 g pb r rb n t B C o w h h1
  · by_cases h2 : o.kd = 2
    · exact step_2 g pb r rb n t B C o w h hO h2
    · by_cases h3 : o.kd = 3
      · exact step_3 g pb r rb n t B C o w h hO.ho h3
      · by_cases h4 : o.kd = 4
        · exact step_4 g pb r rb n t B C o w h hO h4
        · exact step_0 g pb r rb n t B C o w h ⟨h1, h2, h3, h4⟩
theorem size51 : (Try.prog.info? 51).map (·.size) = some 6 := by kernel_rfl
theorem load51 {w : World} {b o : Nat} {X : Ops} (h : w.rangeAt b o (opCells X).toList) : (Instr.loadAt 51 (.pointer (some ⟨b, o, none⟩))).run Try.prog w = .ok (.agg (opCells X)) w :=
  run_loadAt_mid (P := Try.prog) w b o 51 (opCells X).toList _ h Try.underlying51 rfl (by rw [size51]; rfl)
theorem range_later {w w' : World} {b o : Nat} {cs : List Value} (hb : Below w.heap.size w w') (h : w.rangeAt b o cs) : w'.rangeAt b o cs := fun j v hv => cell_later hb (h j v hv)
def ScRel (w : World) (g pb r rb n k : Nat) (v : Value) (w' : World) : Prop := ∃ i : Nat, v = .int .i64 (i : Int) ∧ i ≤ k ∧ (∃ t B C, Duo w' g pb r rb n t B C) ∧ Below w.heap.size w w'
set_option maxRecDepth 100000 in
set_option maxHeartbeats 2000000 in
theorem scripts_walk (pages : Int) (x : Option Addr) (k cap : Nat) (f : Nat → Ops) (w : World) (hS : Scr w x k cap f) (hk : k ≤ 9223372036854775807) :
    Calls Try.prog 5 #[.int .i64 pages, .slice x k cap] w fun e w' => e = .returned (.bool true) ∧ Below w.heap.size w w' := by
  have HS := hid hS
  clear hS
  by_cases hp : 0 ≤ pages ∧ pages ≤ 256
  · obtain ⟨n, rfl⟩ : ∃ n : Nat, pages = (n : Int) := ⟨pages.toNat, by omega⟩
    have hn : n ≤ 256 := by omega
    clear hp
    go_enter Try.func5, Try.ntmps5
    go_upto_region 2 with (first | (go_at_call 7; refine (new_ok n _ hn).mono ?_; rintro e w1 ⟨g, pb, rfl, A1, hg, hpb, b1⟩))
    replace A1 := hid A1
    replace b1 := hid b1
    go_upto_region 3 with (first | (go_at_call 19; refine (rnew_ok n _ hn).mono ?_; rintro e w2 ⟨r, rb, rfl, A2, hr, hrb, b2⟩))
    have HD : Hid (Duo w2 g pb r rb n (fun _ => false) (fun _ _ => 0) (fun _ _ => 0)) := hid ⟨A1.out.later b2, A2, fun _ _ h => (by cases h), by
      have h1 := A1.out.glt
      have h2 := A1.out.lt
      omega⟩
    have HB := hid (below_call b1.out b2)
    have HOU : Hid (∀ j, Ours g pb r rb j → w.heap.size ≤ j) := hid (fun j hj => by
      have h1 := b1.out.size
      rcases hj with e | e | e | e <;> omega)
    clear A1 b1 A2 b2 hg hpb hr hrb
    go_upto_region 8 with (first
      | (go_at_call 8; refine (num_any _ _).mono ?_; rintro e w3 ⟨rfl, hw⟩; obtain rfl := hw.symm)
      | (go_at_call 9; refine (alive_any _).mono ?_; rintro e w4 ⟨rfl, b4⟩; replace HD := hid (HD.out.later b4); replace HB := hid (below_call HB.out b4); clear b4))
    go_loopw [9] (ScRel w g pb r rb n k) (fun v _ => k - (intOf v).toNat)
    case atStart => exact ⟨0, rfl, Nat.zero_le _, ⟨_, _, _, HD.out⟩, HB.out⟩
    case round =>
      clear HD HB
      obtain ⟨i, rfl, hi, ⟨t, B, C, hD⟩, hB⟩ := hrel
      have HD := hid hD
      have HB := hid hB
      clear hD hB
      by_cases hlt : i < k
      · have hd : decide ((i : Int) < (k : Int)) = true := decide_eq_true (by omega)
        obtain ⟨b, o, rfl, hc⟩ := HS.out.plain (by omega)
        have HLD := hid (load51 (range_later HB.out (hc i hlt)))
        have HOK := hid ((HS.out.ok i hlt).ok HB.out HOU.out)
        clear hc
        go_wp2_with (first
          | ((with_reducible refine ld_arm HLD.out ?_ ?_); · rfl)
          | (go_at_call 20; refine (step_any g pb r rb n t B C (f i) _ HD.out HOK.out).mono ?_; rintro e w5 ⟨rfl, ⟨t5, B5, C5, D5⟩, b5⟩; have HD5 := hid D5; have HB5 := hid (But.below HB.out b5 HOU.out); clear D5 b5)
          | (go_at_call 21; refine (holds_any g pb r rb n t5 B5 C5 _ HD5.out).mono ?_; rintro e w6 ⟨rfl, b6⟩; replace HD5 := hid (HD5.out.later b6); replace HB5 := hid (below_call HB5.out b6); clear b6))
        exact ⟨⟨i + 1, rfl, by omega, ⟨_, _, _, HD5.out⟩, HB5.out⟩, by simp [intOf]; omega⟩
      · obtain rfl : k = i := by omega
        have hd : decide ((k : Int) < (k : Int)) = false := by simp
        go_wp2_with (first | (go_at_call 21; refine (holds_any g pb r rb n t B C _ HD.out).mono ?_; rintro e w6 ⟨rfl, b6⟩; replace HB := hid (below_call HB.out b6); clear b6))
        go_ret
        exact ⟨rfl, HB.out⟩
  · have hp2 : pages < 0 ∨ 256 < pages := by omega
    clear hp
    go_enter Try.func5, Try.ntmps5
    go_wp2_with (first
      | (go_at_call 7; refine (new_bad pages _ hp2).mono ?_; rintro e w1 ⟨rfl, hw⟩; obtain rfl := hw.symm)
      | (go_at_call 19; refine (rnew_bad pages _ hp2).mono ?_; rintro e w2 ⟨rfl, hw⟩; obtain rfl := hw.symm)
      | (go_at_call 8; refine (num_any _ _).mono ?_; rintro e w3 ⟨rfl, hw⟩; obtain rfl := hw.symm)
      | (go_at_call 9; refine (alive_any _).mono ?_; rintro e w4 ⟨rfl, b4⟩))
    go_ret
    exact ⟨rfl, b4⟩
end Go.Proofs.Ytfcfacchppkmdaa
