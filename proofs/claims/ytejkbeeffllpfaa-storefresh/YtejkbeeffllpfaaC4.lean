import Derived.Test.YtejkbeeffllpfaaC3
import Derived.Test.YtejkbeeffllpfaaA2
namespace Go.Proofs.Ytejkbeeffllpfaa
open Go.RowKit
set_option linter.unusedVariables false

/-- The bytes behind a write. -/
def wrB (B : Nat → Nat → Nat) (p off : Nat) (D : List Nat) : Nat → Nat → Nat := fun i j => if i = p ∧ off ≤ j ∧ j < off + D.length then D.getD (j - off) 0 else B i j
theorem getD_small {D : List Nat} (h : ∀ x ∈ D, x < 256) (k : Nat) : D.getD k 0 < 256 := by
  rw [List.getD_eq_getElem?_getD]
  cases hk : D[k]? with
  | none => simp
  | some v => simpa using h v (List.mem_of_getElem? hk)
theorem Arn.write {w : World} {g pb n : Nat} {t : Nat → Bool} {B : Nat → Nat → Nat} {p off : Nat} {D : List Nat} (h : Arn w g pb n t B) (hp : t p = true) (ho : off + D.length ≤ 64) (hD : ∀ x ∈ D, x < 256) :
    Arn (w.setCells pb (p * 64 + off) (u8s D)) g pb n t (wrB B p off D) := by
  have hpn := h.only p hp
  have hne := h.ne
  refine ⟨h.ne, h.le, ?_, fun i hi => ⟨?_, ?_⟩, fun i j hi hj => ⟨?_, ?_⟩, by rw [size_setCells]; exact h.lt, h.only, fun i j hi => ?_, fun i j => ?_⟩
  · rw [World.cell?_setCells_out _ _ _ _ _ (fun e => absurd e hne)]
    exact h.head
  · rw [World.cell?_setCells_out _ _ _ _ _ (fun e => absurd e hne)]
    exact (h.mark i hi).1
  · rw [World.frozen?_setCells]
    exact (h.mark i hi).2
  · unfold wrB
    by_cases e : i = p ∧ off ≤ j ∧ j < off + D.length
    · rw [if_pos e]
      obtain ⟨rfl, e1, e2⟩ := e
      have hin := World.cell?_setCells_in pb (u8s D) (i * 64 + off) w (fun k hk => by
        rw [u8s_length] at hk
        have := (h.page i (off + k) hi (by omega)).1
        rw [← Nat.add_assoc] at this
        rw [this]; rfl) (j - off) (by rw [u8s_length]; omega)
      have e3 : i * 64 + off + (j - off) = i * 64 + j := by omega
      rw [e3] at hin
      rw [hin]
      simp [u8s, List.getD_eq_getElem?_getD, List.getElem?_eq_getElem (show j - off < D.length by omega)]
    · rw [if_neg e, World.cell?_setCells_out _ _ _ _ _ (fun _ _ => ?_)]
      · exact (h.page i j hi hj).1
      · rw [u8s_length]
        show i * 64 + j < p * 64 + off ∨ p * 64 + off + D.length ≤ i * 64 + j
        omega
  · rw [World.frozen?_setCells]
    exact (h.page i j hi hj).2
  · unfold wrB
    rw [if_neg (fun e => by rw [e.1, hp] at hi; cases hi)]
    exact h.zero i j hi
  · unfold wrB
    split
    · exact getD_small hD _
    · exact h.small i j
/-- A page's bytes. -/
def pgL (B : Nat → Nat → Nat) (p off m : Nat) : List Nat := (List.range m).map fun k => B p (off + k)
theorem pgL_length (B : Nat → Nat → Nat) (p off m : Nat) : (pgL B p off m).length = m := by simp [pgL]
theorem pgL_get (B : Nat → Nat → Nat) (p off m k : Nat) (h : k < m) : (u8s (pgL B p off m))[k]? = some (.int .u8 ((B p (off + k) : Nat) : Int)) := by simp [u8s, pgL, h]
theorem Arn.range {w : World} {g pb n : Nat} {t : Nat → Bool} {B : Nat → Nat → Nat} (h : Arn w g pb n t B) {p : Nat} (hp : p < n) : w.rangeAt pb (p * 64) (u8s (pgL B p 0 64)) := fun j v hv => by
  have hj : j < 64 := by have := (List.getElem?_eq_some_iff.1 hv).1; rwa [u8s_length, pgL_length] at this
  rw [pgL_get _ _ _ _ _ hj, Nat.zero_add] at hv
  cases hv
  exact (h.page p j hp hj).1
theorem size104 : (Try.prog.info? 104).map (·.size) = some 64 := by kernel_rfl
theorem load104 {w : World} {g pb n : Nat} {t : Nat → Bool} {B : Nat → Nat → Nat} (h : Arn w g pb n t B) {p : Nat} (hp : p < n) : (Instr.loadAt 104 (.pointer (some ⟨pb, p * 64, none⟩))).run Try.prog w = .ok (.agg (u8s (pgL B p 0 64)).toArray) w :=
  run_loadAt_mid (P := Try.prog) w pb (p * 64) 104 _ _ (h.range hp) Try.underlying104 rfl (by rw [size104, u8s_length, pgL_length])
theorem u8s_cell (L : List Nat) (h : ∀ x ∈ L, x < 256) : u8s L = (L.map UInt8.ofNat).map Extern.Stop.cell := by
  rw [u8s, List.map_map]
  refine List.map_congr_left fun x hx => ?_
  simp only [Function.comp, Extern.Stop.cell]
  rw [UInt8.toNat_ofNat_of_lt' (h x hx)]
  rfl
theorem zeros_cell : (Array.replicate 64 (Value.int .u8 0)) = ((List.replicate 64 (0 : UInt8)).map Extern.Stop.cell).toArray := by rfl
theorem Arn.congr {w : World} {g pb n : Nat} {t : Nat → Bool} {B C : Nat → Nat → Nat} (h : Arn w g pb n t B) (e : B = C) : Arn w g pb n t C := e ▸ h
theorem pgL_small {w : World} {g pb n : Nat} {t : Nat → Bool} {B : Nat → Nat → Nat} (h : Arn w g pb n t B) (p off m : Nat) : ∀ x ∈ pgL B p off m, x < 256 := by
  intro x hx
  simp only [pgL, List.mem_map] at hx
  obtain ⟨k, _, rfl⟩ := hx
  exact h.small _ _
theorem zero_u8 (w : World) : (zeroValue 5).run Try.prog w = .ok (.int .u8 0) w := zero_of info5 w
theorem pgL_zero {B : Nat → Nat → Nat} {p : Nat} (h : pgL B p 0 64 = List.replicate 64 0) (j : Nat) (hj : j < 64) : B p j = 0 := by
  have := congrArg (fun l : List Nat => l[j]?) h
  simp only [List.getElem?_replicate, hj, if_true] at this
  simpa [pgL, hj] using this
set_option maxRecDepth 100000 in
set_option maxHeartbeats 1000000 in
theorem wipe_any (g pb n : Nat) (t : Nat → Bool) (B : Nat → Nat → Nat) (p : Nat) (w : World) (h : Arn w g pb n t B) (hp : t p = true) :
    Calls Try.prog 51 #[.pointer (some ⟨pb, p * 64, none⟩)] w fun e w' => e = .returned (.tuple #[]) ∧ Arn w' g pb n t (fun i j => if i = p ∧ j < 64 then 0 else B i j) ∧ But (· = pb) w w' := by
  have hpn := h.only p hp
  have hl := load104 h hpn
  have hz := zero_of info104
  rw [u8s_cell _ (pgL_small h p 0 64)] at hl
  rw [zeros_cell] at hz
  have hne := eq_bytes 104 64 Try.underlying104 ((pgL B p 0 64).map UInt8.ofNat) (List.replicate 64 0) (by rw [List.length_map, pgL_length]) (by simp) w
  obtain ⟨b, hb⟩ : ∃ b, b = (List.map UInt8.ofNat (pgL B p 0 64) == List.replicate 64 0) := ⟨_, rfl⟩
  rw [← hb] at hne
  have HBB := hid hb
  have hcl := Lib.run_clear_slice (P := Try.prog) w 30 5 0 (.int .u8 0) Try.underlying30 zero_u8 rfl rfl pb (p * 64) 64 64 (by omega) (fun j hj => by rw [(h.page p j hpn hj).1]; rfl) (fun j hj => (h.page p j hpn hj).2)
  have H := hid h
  obtain ⟨o, ho⟩ : ∃ o, o = p * 64 := ⟨_, rfl⟩
  rw [← ho] at hl hcl ⊢
  have HO := hid ho
  have HCL := hid hcl
  have HLD := hid hl
  obtain ⟨X, hX⟩ : ∃ X, X = (List.map Extern.Stop.cell (List.map UInt8.ofNat (pgL B p 0 64))).toArray := ⟨_, rfl⟩
  obtain ⟨Z, hZ⟩ : ∃ Z, Z = (List.map Extern.Stop.cell (List.replicate 64 (0 : UInt8))).toArray := ⟨_, rfl⟩
  rw [← hX] at HLD
  rw [← hX, ← hZ] at hne
  rw [← hZ] at hz
  clear h ho hl hcl hX hZ hb
  go_enter Try.func51, Try.ntmps51
  cases b with
  | true =>
    go_wp2_with (first | ((with_reducible refine ld_arm HLD.out ?_ ?_); · rfl))
    refine bodyPost_end (v := .tuple #[]) (by simp [results, Try.results51, go_sem]) rfl ⟨rfl, H.out.congr ?_, But.refl _ _⟩
    have e : pgL B p 0 64 = List.replicate 64 0 := by
      have h1 := eq_of_beq HBB.out.symm
      have h2 := congrArg (List.map UInt8.toNat) h1
      rw [List.map_map, List.map_replicate] at h2
      refine Eq.trans ?_ h2
      refine (List.map_congr_left (g := id) (fun x hx => ?_)).trans (List.map_id _) |>.symm
      exact UInt8.toNat_ofNat_of_lt' (pgL_small H.out p 0 64 x hx)
    funext i j
    by_cases h1 : i = p ∧ j < 64
    · rw [if_pos h1, h1.1]
      exact pgL_zero e j h1.2
    · rw [if_neg h1]
  | false =>
    go_wp2_with (first | ((with_reducible refine ld_arm HLD.out ?_ ?_); · rfl) | ((with_reducible refine clear_arm HCL.out ?_ ?_); · rfl))
    have hA := H.out.write (off := 0) (D := List.replicate 64 0) hp (by simp) (fun x hx => by rw [List.eq_of_mem_replicate hx]; omega)
    rw [Nat.add_zero, ← HO.out] at hA
    refine bodyPost_end (v := .tuple #[]) (by simp [results, Try.results51, go_sem]) rfl ⟨rfl, hA.congr ?_, But.setCells (S := (· = pb)) (show pb = pb from rfl) _ _ (But.refl _ _)⟩
    funext i j
    unfold wrB
    by_cases h1 : i = p ∧ j < 64
    · rw [if_pos ⟨h1.1, by simpa using h1.2⟩, if_pos h1]
      rw [List.getD_eq_getElem?_getD, List.getElem?_replicate]
      split <;> rfl
    · rw [if_neg h1, if_neg (fun e => h1 ⟨e.1, by simpa using e.2⟩)]
set_option maxRecDepth 100000 in
set_option maxHeartbeats 1000000 in
theorem read_bad (g pb n : Nat) (t : Nat → Bool) (B : Nat → Nat → Nat) (p off m : Int) (w : World) (h : Arn w g pb n t B) (ho : -9223372036854775808 ≤ off ∧ off < 9223372036854775808) (E : Int) (hE : lookE n t p off m = E) (hn : E ≠ 0) :
    Calls Try.prog 30 #[.pointer (some ⟨g, 0, none⟩), .int .i64 p, .int .i64 off, .int .i64 m] w fun e w' => e = .returned (.tuple #[.slice none 0 0, .int .i64 E]) ∧ w' = w := by
  have H := hid h
  have HE := hid hE
  have HO := hid ho
  have hd : (E != 0) = true := by simpa using hn
  clear h hE ho hn
  go_enter Try.func30, Try.ntmps30
  go_wp2_with (first | (go_at_call 49; refine (look_any g pb n t B p off m _ H.out HO.out).mono ?_; rintro e w1 ⟨rfl, rfl⟩; rw [HE.out]))
  exact bodyPost_ret (v := .tuple #[.slice none 0 0, .int .i64 E]) (by simp [results, Try.results30, go_sem]) rfl ⟨rfl, rfl⟩
theorem lookE_zero {n : Nat} {t : Nat → Bool} {p off m : Nat} (h : t p = true) (hn : p < n) (ho : off + m ≤ 64) : lookE n t (p : Int) (off : Int) (m : Int) = 0 := by
  unfold lookE thr
  rw [if_pos ⟨decide_eq_true (by omega), by simpa using h⟩, if_pos (by omega)]
theorem len104 : Try.prog.arrayLen 104 = 64 := by kernel_rfl
theorem und104 : Try.prog.underlying 104 = some (.array (Try.prog.arrayLen 104) (Try.prog.elem 104)) := by kernel_rfl
theorem size_el104 (W : World) : (sizeOf (Try.prog.elem 104)).run Try.prog W = .ok 1 W := by
  have e : Try.prog.elem 104 = 5 := by kernel_rfl
  obtain ⟨i, hi, hz0, hz1, hz2⟩ := info_parts info5
  rw [e]
  simp [sizeOf, typeInfo, hi, hz1]
theorem cut_lhm (b o off m : Nat) (ho : off + m ≤ 64) : ∃ so, (m = 0 ∨ so = o + off) ∧ ∀ W : World, (Instr.sliceAt 104 (.pointer (some ⟨b, o, none⟩)) (some (.int .i64 (off : Int))) (some (.int .i64 ((off : Int) + (m : Int)))) (some (.int .i64 ((off : Int) + (m : Int))))).run Try.prog W = .ok (.slice (some ⟨b, so, none⟩) m m) W := by
  have h : ∀ W : World, (Instr.sliceAt 104 (.pointer (some ⟨b, o, none⟩)) (some (.int .i64 (off : Int))) (some (.int .i64 ((off : Int) + (m : Int)))) (some (.int .i64 ((off : Int) + (m : Int))))).run Try.prog W = .ok (slicedAt ⟨b, o, none⟩ off (off + m) (off + m) 1) W := fun W => by
    rw [run_sliceAt_array_lhm (P := Try.prog) W 104 ⟨b, o, none⟩ und104 .i64 .i64 .i64 (off : Int) ((off : Int) + (m : Int)) ((off : Int) + (m : Int)) (by omega) (by omega) (by omega) (by rw [len104]; omega), size_el104]
    have e : ((off : Int) + (m : Int)).toNat = off + m := by omega
    simp [e]
  by_cases hm : m = 0
  · subst hm
    exact ⟨o, .inl rfl, fun W => by rw [h W]; simp [slicedAt]⟩
  · refine ⟨o + off, .inr rfl, fun W => ?_⟩
    rw [h W, slicedAt, if_neg (by omega), addr_add]
    simp
theorem cut_l (b o off : Nat) (ho : off ≤ 64) : ∃ so, (off = 64 ∨ so = o + off) ∧ ∀ W : World, (Instr.sliceAt 104 (.pointer (some ⟨b, o, none⟩)) (some (.int .i64 (off : Int))) none none).run Try.prog W = .ok (.slice (some ⟨b, so, none⟩) (64 - off) (64 - off)) W := by
  have h : ∀ W : World, (Instr.sliceAt 104 (.pointer (some ⟨b, o, none⟩)) (some (.int .i64 (off : Int))) none none).run Try.prog W = .ok (slicedAt ⟨b, o, none⟩ off 64 64 1) W := fun W => by
    rw [run_sliceAt_array_l (P := Try.prog) W 104 ⟨b, o, none⟩ und104 .i64 (off : Int) (by omega) (by rw [len104]; omega), size_el104, len104]
    simp
  by_cases hm : off = 64
  · subst hm
    exact ⟨o, .inl rfl, fun W => by rw [h W]; simp [slicedAt]⟩
  · refine ⟨o + off, .inr rfl, fun W => ?_⟩
    rw [h W, slicedAt, if_neg (by omega), addr_add]
    simp
theorem blk_some {b o k : Nat} {s : Option Nat} : Blk (some ⟨b, o, none⟩) k ↔ k = b := by
  constructor
  · rintro ⟨x, hx, rfl⟩
    cases hx
    rfl
  · rintro rfl
    exact ⟨_, rfl, rfl⟩
theorem pgL_sub (B : Nat → Nat → Nat) (p off m k : Nat) (h : k < m) (ho : off + m ≤ 64) : (u8s (pgL B p 0 64))[off + k]? = some (.int .u8 ((B p (off + k) : Nat) : Int)) := by
  rw [pgL_get _ _ _ _ _ (by omega), Nat.zero_add]
set_option maxRecDepth 100000 in
set_option maxHeartbeats 1000000 in
theorem read_ok (g pb n : Nat) (t : Nat → Bool) (B : Nat → Nat → Nat) (p off m : Nat) (w : World) (h : Arn w g pb n t B) (hp : t p = true) (ho : off + m ≤ 64) :
    Calls Try.prog 30 #[.pointer (some ⟨g, 0, none⟩), .int .i64 (p : Int), .int .i64 (off : Int), .int .i64 (m : Int)] w fun e w' => ∃ a, e = .returned (.tuple #[.slice a m m, .int .i64 0]) ∧ Ans w' w.heap.size a m m (u8s (pgL B p off m)) ∧ Below w.heap.size w w' := by
  have x := h.head
  have hpn := h.only p hp
  have HE := hid (lookE_zero hp hpn ho)
  have HLD := hid (load104 h hpn)
  have hz := zero_of info104
  obtain ⟨Z, hZ⟩ : ∃ Z, Z = Array.replicate 64 (Value.int .u8 0) := ⟨_, rfl⟩
  rw [← hZ] at hz
  have H := hid h
  obtain ⟨L, hL⟩ : ∃ L, L = u8s (pgL B p 0 64) := ⟨_, rfl⟩
  rw [← hL] at HLD
  have hl : L.length = 64 := by rw [hL, u8s_length, pgL_length]
  have ht : (w.alloc (.cells Z 104)).there w.heap.size 0 64 := fun j hj => by
    have hh := heap_alloc_new w (.cells Z 104)
    exact ⟨by rw [cell_of_row _ _ _ _ _ _ hh, hZ]; simp [hj], by simp only [World.frozen?, hh]; simp⟩
  have hst : (storeCells ⟨w.heap.size, 0, none⟩ L).run Try.prog (w.alloc (.cells Z 104)) = .ok () ((w.alloc (.cells Z 104)).setCells w.heap.size 0 L) :=
    run_storeCells_cells (P := Try.prog) w.heap.size 0 L 0 _ (fun j hj => by rw [Nat.add_zero]; exact (ht j (by omega)).1) (fun j hj => by rw [Nat.add_zero]; exact (ht j (by omega)).2) (by rw [hL]; exact u8s_one _)
  have HT := hid ht
  have HL := hid hL
  have HLL := hid hl
  have HZZ := hid hZ
  clear h ht hL hZ
  go_enter Try.func30, Try.ntmps30
  go_upto_region 4 with (first | (go_at_call 49; refine (look_any g pb n t B (p : Int) (off : Int) (m : Int) _ H.out (by omega)).mono ?_; rintro e w1 ⟨rfl, rfl⟩; rw [HE.out]))
  obtain ⟨so, hso, hcut⟩ := cut_lhm w1.heap.size 0 off m ho
  have HSO := hid hso
  clear hso
  go_wp2_with (first | ((with_reducible refine ld_arm HLD.out ?_ ?_); · rfl))
  have hB : Below w1.heap.size w1 ((w1.alloc (.cells Z 104)).setCells w1.heap.size 0 L) := But.below (S := (· = w1.heap.size)) (below1 w1 (.cells Z 104)) (But.setCells (S := (· = w1.heap.size)) (show w1.heap.size = w1.heap.size from rfl) L 0 (But.refl _ _)) (fun k hk => by rw [hk]; exact Nat.le_refl _)
  refine bodyPost_ret (v := .tuple #[.slice (some ⟨w1.heap.size, so, none⟩) m m, .int .i64 0]) (by simp [results, Try.results30, go_sem]) rfl ⟨_, rfl, ⟨Row.at (by rw [u8s_length, pgL_length]) (Nat.le_refl _) (u8s_one _) (fun i v hv => ?_), fun x hx j => ?_, fun k hk => ?_, fun k hk => ?_⟩, hB⟩
  · have hi : i < m := by have := (List.getElem?_eq_some_iff.1 hv).1; rwa [u8s_length, pgL_length] at this
    rw [pgL_get _ _ _ _ _ hi] at hv
    have hs : so = off := by have := HSO.out; omega
    rw [hs]
    have := World.rangeAt_setCells_same (w1.alloc (.cells Z 104)) w1.heap.size 0 L (by rw [hl]; exact HT.out) (off + i) v (by rw [HL.out, pgL_sub B p off m i hi ho]; exact hv)
    rwa [Nat.zero_add] at this
  · cases hx
    rw [World.frozen?_setCells]
    have hh := heap_alloc_new w1 (.cells Z 104)
    simp only [World.frozen?, hh]
    simp
  · obtain ⟨x, hx, rfl⟩ := hk
    cases hx
    exact Nat.le_refl _
  · obtain ⟨x, hx, rfl⟩ := hk
    cases hx
    rw [size_setCells]
    simp
set_option maxRecDepth 100000 in
set_option maxHeartbeats 1000000 in
theorem write_bad (g pb n : Nat) (t : Nat → Bool) (B : Nat → Nat → Nat) (p off : Int) (a : Option Addr) (m cap : Nat) (w : World) (h : Arn w g pb n t B) (ho : -9223372036854775808 ≤ off ∧ off < 9223372036854775808) (E : Int) (hE : lookE n t p off (m : Int) = E) (hn : E ≠ 0) :
    Calls Try.prog 31 #[.pointer (some ⟨g, 0, none⟩), .int .i64 p, .int .i64 off, .slice a m cap] w fun e w' => e = .returned (.int .i64 E) ∧ w' = w := by
  have H := hid h
  have HE := hid hE
  have HO := hid ho
  have hd : (E != 0) = true := by simpa using hn
  clear h hE ho hn
  go_enter Try.func31, Try.ntmps31
  go_wp2_with (first | (go_at_call 49; refine (look_any g pb n t B p off (m : Int) _ H.out HO.out).mono ?_; rintro e w1 ⟨rfl, rfl⟩; rw [HE.out]))
  go_ret
  exact ⟨rfl, rfl⟩
theorem Arn.copy {w : World} {g pb n : Nat} {t : Nat → Bool} {B : Nat → Nat → Nat} {p off so : Nat} {D : List Nat} {a : Option Addr} {m cap : Nat} (h : Arn w g pb n t B) (hp : t p = true) (ho : off + m ≤ 64) (hD : ∀ x ∈ D, x < 256) (hR : Row w a m cap (u8s D)) (hso : off = 64 ∨ so = p * 64 + off) :
    ∃ v w', (Builtin.copy_ #[30, 30] 3 #[.slice (some ⟨pb, so, none⟩) (64 - off) (64 - off), .slice a m cap]).run Try.prog w = .ok v w' ∧ Arn w' g pb n t (wrB B p off D) ∧ But (· = pb) w w' := by
  have hpn := h.only p hp
  have hlen := hR.len
  rw [u8s_length] at hlen
  by_cases hm : m = 0
  · subst hm
    refine ⟨_, w, run_copy_none (P := Try.prog) w 30 30 3 5 _ _ _ _ _ _ Try.underlying30 (by kernel_rfl) (by simp), h.congr ?_, But.refl _ _⟩
    funext i j
    unfold wrB
    rw [if_neg (by omega)]
  · obtain ⟨b, o, rfl, hc⟩ := hR.plain (by omega)
    have hs : so = p * 64 + off := by omega
    subst hs
    have hpg : ∀ j, j < m → Lies w ⟨pb, p * 64 + off + j, none⟩ (.int .u8 ((B p (off + j) : Nat) : Int)) := fun j hj => by
      have := h.page p (off + j) hpn (by omega)
      rwa [← Nat.add_assoc] at this
    have hlu : (u8s D).length = m := hR.len
    refine ⟨_, _, run_copy_cells (P := Try.prog) w 30 30 3 5 pb (p * 64 + off) (64 - off) (64 - off) ⟨b, o, none⟩ m cap (u8s D) Try.underlying30 (by kernel_rfl) (by rw [hlu]; exact (Nat.min_eq_left (by omega)).symm) (hR.cells _ rfl) (fun j hj => by rw [(hpg j (by omega)).1]; rfl) (fun j hj => (hpg j (by omega)).2) (u8s_one _), h.write hp (by omega) hD, But.setCells (S := (· = pb)) (show pb = pb from rfl) _ _ (But.refl _ _)⟩
set_option maxRecDepth 100000 in
set_option maxHeartbeats 1000000 in
theorem write_ok (g pb n : Nat) (t : Nat → Bool) (B : Nat → Nat → Nat) (p off : Nat) (a : Option Addr) (m cap : Nat) (D : List Nat) (w : World) (h : Arn w g pb n t B) (hp : t p = true) (ho : off + m ≤ 64) (hD : ∀ x ∈ D, x < 256) (hR : Row w a m cap (u8s D)) :
    Calls Try.prog 31 #[.pointer (some ⟨g, 0, none⟩), .int .i64 (p : Int), .int .i64 (off : Int), .slice a m cap] w fun e w' => e = .returned (.int .i64 0) ∧ Arn w' g pb n t (wrB B p off D) ∧ But (· = pb) w w' := by
  have x := h.head
  have hpn := h.only p hp
  have HE := hid (lookE_zero hp hpn ho)
  obtain ⟨so, hso, hcut⟩ := cut_l pb (p * 64) off (by omega)
  obtain ⟨v, w2, hrun, hA, hB⟩ := h.copy hp ho hD hR hso
  have H := hid h
  have HA := hid hA
  clear h hA hR hso hD
  go_enter Try.func31, Try.ntmps31
  go_upto_region 4 with (first | (go_at_call 49; refine (look_any g pb n t B (p : Int) (off : Int) (m : Int) _ H.out (by omega)).mono ?_; rintro e w1 ⟨rfl, rfl⟩; rw [HE.out]))
  go_wp2
  go_ret
  exact ⟨rfl, HA.out, hB⟩
end Go.Proofs.Ytejkbeeffllpfaa
