import Derived.Test.YtfibidfkhfkfpaaG1
namespace Go.Proofs.Ytfibidfkhfkfpaa
open Go.RowKit
set_option linter.unusedVariables false

/-- The document's draws: n words as they were given, the width, t of them taken. -/
structure Dw (w : World) (g gb n : Nat) (f : Nat → Nat) (W : Int) (t : Nat) : Prop where
  all : ∃ a cap, w.cell? ⟨g, 0, none⟩ = some (.slice a n cap) ∧ n ≤ cap ∧ (0 < n → a = some ⟨gb, 0, none⟩)
  wid : w.cell? ⟨g, 1, none⟩ = some (.int .i64 W)
  tk : Lies w ⟨g, 2, none⟩ (.int .i64 (t : Int))
  ar : ∀ i, i < n → Wd w gb (i * 2) (f i)
  ne : 0 < n → g ≠ gb
  le : t ≤ n
  big : n ≤ 4096
  small : ∀ i, f i < B64 * B64
theorem Dw.but {S : Nat → Prop} {w w' : World} {g gb n : Nat} {f : Nat → Nat} {W : Int} {t : Nat} (hb : But S w w') (h : Dw w g gb n f W t) (h1 : ¬ S g) (h2 : 0 < n → ¬ S gb) : Dw w' g gb n f W t := by
  obtain ⟨a, cap, ha, hc, hz⟩ := h.all
  exact ⟨⟨a, cap, cell_but hb ha h1, hc, hz⟩, cell_but hb h.wid h1, h.tk.but hb h1, fun i hi => (h.ar i hi).but hb (h2 (by omega)), h.ne, h.le, h.big, h.small⟩
theorem Dw.later {w w' : World} {g gb n : Nat} {f : Nat → Nat} {W : Int} {t : Nat} (hb : Below w.heap.size w w') (h : Dw w g gb n f W t) : Dw w' g gb n f W t := h.but (S := fun _ => False) (But.of hb) (fun h => h) (fun _ h => h)
theorem Dw.alloc {w : World} {g gb n : Nat} {f : Nat → Nat} {W : Int} {t : Nat} (h : Dw w g gb n f W t) (o : Obj) : Dw (w.alloc o) g gb n f W t := h.later (below1 _ _)
theorem Dw.drewN {w : World} {g gb n : Nat} {f : Nat → Nat} {W : Int} {t : Nat} (h : Dw w g gb n f W t) (k : Nat) : Dw (w.drewN k) g gb n f W t := h.later (below_drewN (Below.refl _ _) _)
theorem Dw.drew {w : World} {g gb n : Nat} {f : Nat → Nat} {W : Int} {t : Nat} (h : Dw w g gb n f W t) : Dw w.drew g gb n f W t := h.later (Below.refl _ _).drew
theorem Dw.lt {w : World} {g gb n : Nat} {f : Nat → Nat} {W : Int} {t : Nat} (h : Dw w g gb n f W t) : g < w.heap.size := World.block_lt_of_cell? _ _ h.wid
theorem Dw.lt2 {w : World} {g gb n : Nat} {f : Nat → Nat} {W : Int} {t : Nat} (h : Dw w g gb n f W t) (h0 : 0 < n) : gb < w.heap.size := World.block_lt_of_cell? _ _ (h.ar 0 h0).1
theorem Dw.put {w : World} {g gb n : Nat} {f : Nat → Nat} {W : Int} {t : Nat} (h : Dw w g gb n f W t) {t' : Nat} (ht : t' ≤ n) : Dw (w.setCell ⟨g, 2, none⟩ (.int .i64 (t' : Int))) g gb n f W t' := by
  obtain ⟨a, cap, ha, hc, hz⟩ := h.all
  refine ⟨⟨a, cap, cell_set_ne ha (by omega), hc, hz⟩, cell_set_ne h.wid (by omega), h.tk.put, fun i hi => ?_, h.ne, ht, h.big, h.small⟩
  obtain ⟨h1, h2⟩ := h.ar i hi
  have hne := h.ne (by omega)
  exact ⟨by rw [World.cell?_setCell_other _ _ _ _ (addr_ne (.inl hne))]; exact h1, by rw [World.cell?_setCell_other _ _ _ _ (addr_ne (.inl hne))]; exact h2⟩
theorem Dw.fresh {w : World} {g gb n : Nat} {f : Nat → Nat} {W : Int} {t : Nat} (h : Dw w g gb n f W t) {b : Nat} (h1 : g ≠ b) (h2 : 0 < n → gb ≠ b) (o : Nat) (u : Value) : Dw (w.setCell ⟨b, o, none⟩ u) g gb n f W t :=
  h.but (S := (· = b)) ((But.refl (· = b) _).own _ _) h1 h2

/-- The words are appended to nothing. -/
theorem nil_run {w : World} {x : Option Addr} {k cap : Nat} {f : Nat → Nat} (h : Ws w x k cap f) (hk : k ≤ 4096) :
    ∃ a1 g1 c1 w1, (Builtin.append_ #[22, 22] 22 #[.slice none 0 0, .slice x k cap]).run Try.prog w = .ok (.slice a1 k c1) w1 ∧ k ≤ c1 ∧ (0 < k → a1 = some ⟨g1, 0, none⟩ ∧ Ar w1 g1 k f ∧ w.heap.size ≤ g1) ∧ Below w.heap.size w w1 := by
  obtain ⟨i, hi, hz0, hz1, hz2⟩ := info_parts info25
  have o0 : w.ownsRow w.heap.size 25 2 (.slice none 0 0) 0 [] := ⟨rfl, .inl ⟨rfl, rfl⟩⟩
  cases x with
  | none =>
    obtain ⟨rfl, rfl⟩ := h.none_ rfl
    exact ⟨_, 0, _, _, run_append_owned_none (P := Try.prog) (w := w) w.heap.size 22 22 25 i 2 Try.underlying22 hi _ 0 _ o0, Nat.le_refl _, fun h => by omega, Below.refl _ _⟩
  | some y =>
    obtain ⟨v1, w1, hr, h2, h3, h4, _⟩ := run_append_own_at (P := Try.prog) w w.heap.size 22 22 25 i _ 2 16 Try.underlying22 hi hz0 hz1 hz2 rfl (by decide) _ 0 _ o0 y k cap (wvs f k) (wvs_length f k) (fun j u hu => h.cells y rfl j u hu) (wvs_one f k) (by unfold maxLen; omega) (by omega) (Nat.le_refl _)
    rw [Nat.zero_add] at h2
    have hb : Below w.heap.size w w1 := (Below.refl _ _).grown h3 (Nat.le_refl _) (own_block o0)
    rcases h2.2 with ⟨rfl, rfl⟩ | ⟨g, c, cur, rfl, hg, _, hc, _⟩
    · exact ⟨none, 0, 0, w1, hr, Nat.le_refl _, fun h => by omega, hb⟩
    · obtain ⟨ha, hb1, hb2⟩ := ar_of (by simpa using h2)
      exact ⟨_, g, c, w1, hr, hc, fun _ => ⟨rfl, ha, hb1⟩, hb⟩
set_option maxRecDepth 100000 in
set_option maxHeartbeats 1000000 in
theorem rnew_bad (a : Option Addr) (n cap : Nat) (width : Int) (w : World) (he : newE n width ≠ 0) :
    Calls Try.prog 13 #[.slice a n cap, .int .i64 width] w fun e w' => e = .returned (.tuple #[.pointer none, .int .i64 (newE n width)]) ∧ w' = w := by
  by_cases h1 : width < 1
  · have e1 : newE n width = 18 := by unfold newE; rw [if_pos (.inl h1)]
    rw [e1]
    clear he e1
    go_enter Try.func13, Try.ntmps13
    go_wp2
    exact bodyPost_ret (v := .tuple #[.pointer none, .int .i64 18]) (by simp [results, Try.results13, go_sem]) rfl ⟨rfl, rfl⟩
  by_cases h2 : 128 < width
  · have e1 : newE n width = 18 := by unfold newE; rw [if_pos (.inr h2)]
    rw [e1]
    clear he e1
    go_enter Try.func13, Try.ntmps13
    go_wp2
    exact bodyPost_ret (v := .tuple #[.pointer none, .int .i64 18]) (by simp [results, Try.results13, go_sem]) rfl ⟨rfl, rfl⟩
  by_cases h3 : 4096 < n
  · have e1 : newE n width = 23 := by unfold newE; rw [if_neg (by omega), if_pos h3]
    rw [e1]
    clear he e1
    go_enter Try.func13, Try.ntmps13
    go_wp2
    exact bodyPost_ret (v := .tuple #[.pointer none, .int .i64 23]) (by simp [results, Try.results13, go_sem]) rfl ⟨rfl, rfl⟩
  · exact absurd (by unfold newE; rw [if_neg (by omega), if_neg h3]) he
set_option maxRecDepth 100000 in
set_option maxHeartbeats 1000000 in
theorem rnew_ok (a : Option Addr) (n cap : Nat) (f : Nat → Nat) (width : Int) (w : World) (h : Ws w a n cap f) (h1 : 1 ≤ width) (h2 : width ≤ 128) (hn : n ≤ 4096) :
    Calls Try.prog 13 #[.slice a n cap, .int .i64 width] w fun e w' => ∃ g gb, e = .returned (.tuple #[.pointer (some ⟨g, 0, none⟩), .int .i64 0]) ∧ Dw w' g gb n f width 0 ∧ w.heap.size ≤ g ∧ (0 < n → w.heap.size ≤ gb) ∧ Below w.heap.size w w' := by
  obtain ⟨a1, g1, c1, w1, hrun, hc1, hA, hb⟩ := nil_run h hn
  have HA : Hid (0 < n → a1 = some ⟨g1, 0, none⟩ ∧ Ar w1 g1 n f ∧ w.heap.size ≤ g1) := hA
  have HB : Hid (Below w.heap.size w w1) := hb
  clear hA hb
  go_enter Try.func13, Try.ntmps13
  go_wp2_with (first | (at_builtin; refine wpList_append_known rfl _ _ 22 rfl _ _ rfl rfl _ _ hrun ?_))
  refine bodyPost_ret (v := .tuple #[.pointer (some ⟨w1.heap.size, 0, none⟩), .int .i64 0]) (by simp [results, Try.results13, go_sem]) rfl ⟨_, g1, rfl, ?_, HB.out.size, fun h0 => (HA.out h0).2.2, HB.out.alloc HB.out.size _⟩
  exact ⟨⟨a1, c1, by simp [go_sem], hc1, fun h0 => (HA.out h0).1⟩, by simp [go_sem], ⟨by simp [go_sem], by simp [go_sem]⟩, fun i hi => ((HA.out (by omega)).2.1.at_ i hi).later (below1 _ _), fun h0 => by have := (HA.out h0).2.1.lt; omega, Nat.zero_le _, hn, h.small⟩
set_option maxRecDepth 100000 in
set_option maxHeartbeats 1000000 in
theorem rtaken_any (g gb n : Nat) (f : Nat → Nat) (W : Int) (t : Nat) (w : World) (h : Dw w g gb n f W t) :
    Calls Try.prog 19 #[.pointer (some ⟨g, 0, none⟩)] w fun e w' => e = .returned (.int .i64 (t : Int)) ∧ w' = w := by
  have x := h.tk.1
  go_enter Try.func19, Try.ntmps19
  go_wp2
  go_ret
  exact ⟨rfl, rfl⟩
set_option maxRecDepth 100000 in
set_option maxHeartbeats 1000000 in
theorem rleft_any (g gb n : Nat) (f : Nat → Nat) (W : Int) (t : Nat) (w : World) (h : Dw w g gb n f W t) :
    Calls Try.prog 20 #[.pointer (some ⟨g, 0, none⟩)] w fun e w' => e = .returned (.int .i64 ((n : Int) - (t : Int))) ∧ Below w.heap.size w w' := by
  have x := h.tk.1
  obtain ⟨a, cap, y, hc, hz⟩ := h.all
  have hn := h.big
  have hle := h.le
  clear h hz
  go_enter Try.func20, Try.ntmps20
  go_wp2
  go_quiet (fail)
  go_wp2
  go_ret
  exact ⟨rfl, below_drewN (Below.refl _ _) _⟩
set_option maxRecDepth 100000 in
set_option maxHeartbeats 1000000 in
theorem rskip_ok (g gb n : Nat) (f : Nat → Nat) (W : Int) (t : Nat) (k : Nat) (w : World) (h : Dw w g gb n f W t) (hk : k ≤ n) :
    Calls Try.prog 21 #[.pointer (some ⟨g, 0, none⟩), .int .i64 (k : Int)] w fun e w' => e = .returned (.int .i64 0) ∧ Dw w' g gb n f W k ∧ But (· = g) w w' := by
  have x := h.tk.1
  have x2 := h.tk.2
  obtain ⟨a, cap, y, hc, hz⟩ := h.all
  have hk2 : (k : Int) ≤ (n : Int) := by omega
  have H : Hid (Dw w g gb n f W t) := h
  clear h hz
  go_enter Try.func21, Try.ntmps21
  go_wp2
  go_ret
  exact ⟨rfl, H.out.put hk, (But.refl (· = g) _).own _ _⟩
set_option maxRecDepth 100000 in
set_option maxHeartbeats 1000000 in
theorem rskip_bad (g gb n : Nat) (f : Nat → Nat) (W : Int) (t : Nat) (k : Int) (w : World) (h : Dw w g gb n f W t) (hk : ¬ (0 ≤ k ∧ k ≤ (n : Int))) :
    Calls Try.prog 21 #[.pointer (some ⟨g, 0, none⟩), .int .i64 k] w fun e w' => e = .returned (.int .i64 5) ∧ w' = w := by
  obtain ⟨a, cap, y, hc, hz⟩ := h.all
  clear h hz
  by_cases h0 : k < 0
  · clear hk
    go_enter Try.func21, Try.ntmps21
    go_wp2
    go_ret
    exact ⟨rfl, rfl⟩
  · have h1 : (n : Int) < k := by omega
    clear hk
    go_enter Try.func21, Try.ntmps21
    go_wp2
    go_ret
    exact ⟨rfl, rfl⟩
set_option maxRecDepth 100000 in
set_option maxHeartbeats 1000000 in
theorem rdraw_end (g gb n : Nat) (f : Nat → Nat) (W : Int) (w : World) (h : Dw w g gb n f W n) :
    Calls Try.prog 18 #[.pointer (some ⟨g, 0, none⟩)] w fun e w' => e = .returned (.tuple #[.agg #[.int .u64 0, .int .u64 0], .int .i64 11]) ∧ Below w.heap.size w w' := by
  have x := (h.alloc (.cells #[.int .u64 0, .int .u64 0] 25)).tk.1
  obtain ⟨a, cap, y, hc, hz⟩ := (h.alloc (.cells #[.int .u64 0, .int .u64 0] 25)).all
  clear h hz
  go_enter Try.func18, Try.ntmps18
  go_wp2
  go_quiet (fail)
  go_wp2
  exact bodyPost_ret (v := .tuple #[.agg #[.int .u64 0, .int .u64 0], .int .i64 11]) (by simp [results, Try.results18, go_sem]) rfl ⟨rfl, (((below_drewN (below1 _ _) _).setCell (Nat.le_refl _) _).setCell (Nat.le_refl _) _)⟩
end Go.Proofs.Ytfibidfkhfkfpaa
