import Derived.Test.YtfcfacchppkmdaaR1
namespace Go.Proofs.Ytfcfacchppkmdaa
open Go.RowKit
set_option linter.unusedVariables false
set_option linter.unusedSimpArgs false

set_option maxRecDepth 100000 in
set_option maxHeartbeats 1000000 in
theorem rfree_any (r rb n : Nat) (t : Nat → Bool) (B : Nat → Nat → Nat) (w : World) (h : Ref w r rb n t B) :
    Calls Try.prog 34 #[.pointer (some ⟨r, 0, none⟩)] w fun e w' => e = .returned (.int .i64 ((lst n t false).length : Int)) ∧ Below w.heap.size w w' := by
  have H := hid h
  have hn := h.le
  have HS : Hid (∀ W, Below w.heap.size w W → W.cell? ⟨r, 0, none⟩ = some (.slice (some ⟨rb, 0, none⟩) n n) ∧ Below w.heap.size w W) := hid (fun W hW => ⟨cell_later hW h.head, hW⟩)
  obtain ⟨F, hF⟩ : ∃ F, (lst n t false).length = F := ⟨_, rfl⟩
  obtain ⟨T, hT⟩ : ∃ T, (lst n t true).length = T := ⟨_, rfl⟩
  have hsum : T + F = n := by rw [← hF, ← hT]; exact lst_sum n t
  have hsub : (n : Int) - (T : Int) = (F : Int) := by omega
  have hTn : T ≤ n := by omega
  have hwF : IntKind.i64.wrap (F : Int) = (F : Int) := by rw [IntKind.wrap_i64]; omega
  rw [hF]
  clear h hsum hF
  go_enter Try.func34, Try.ntmps34
  go_wp2
  go_region_held3 (fun W => W.cell? ⟨r, 0, none⟩ = some (.slice (some ⟨rb, 0, none⟩) n n) ∧ Below w.heap.size w W) (first | exact HS.out _ (Below.refl _ _).drew | exact HS.out _ hb2.out) (first | (go_at_call 33; refine (rtaken_any r rb n t B _ (H.out.later (Below.refl _ _).drew)).mono ?_; rintro e w1 ⟨a, m, cap, rfl, O, hb⟩; obtain rfl := len_of O hT; have hb2 := hid (below_call (Below.refl w.heap.size w).drew hb)))
  go_wp2
  go_ret
  exact ⟨rfl, hb2.out⟩
/-- What a Take leaves of the document's bytes. -/
def rB (B : Nat → Nat → Nat) (M : List Nat) : Nat → Nat → Nat := fun i j => if i ∈ M then 0 else B i j
theorem lst_prefix (t : Nat → Bool) (b : Bool) (i n : Nat) (h : i ≤ n) : ∃ M, lst n t b = lst i t b ++ M := by
  induction n with
  | zero =>
    obtain rfl : i = 0 := by omega
    exact ⟨[], by simp⟩
  | succ n ih =>
    by_cases e : i ≤ n
    · obtain ⟨M, hM⟩ := ih e
      exact ⟨M ++ (if t n == b then [n] else []), by rw [lst_succ, hM, List.append_assoc]⟩
    · obtain rfl : i = n + 1 := by omega
      exact ⟨[], by simp⟩
theorem lst_take (t : Nat → Bool) (b : Bool) (i n : Nat) (h : i ≤ n) : (lst n t b).take (lst i t b).length = lst i t b := by
  obtain ⟨M, hM⟩ := lst_prefix t b i n h
  rw [hM]
  exact List.take_left' rfl
def RTakeRel (w : World) (r rb n : Nat) (t : Nat → Bool) (B : Nat → Nat → Nat) (K : Nat) (s v : Value) (w' : World) : Prop :=
  ∃ (i : Nat) (a : Option Addr) (cap : Nat), s = .slice a (lst i t false).length cap ∧ v = .int .i64 (i : Int) ∧ i ≤ n ∧ (lst i t false).length ≤ K ∧ Own w' w.heap.size 3 a (lst i t false).length cap (ints (nats (lst i t false))) ∧
    Ref w' r rb n (tk t (lst i t false)) (rB B (lst i t false)) ∧ But (· = rb) w w'
theorem Ref.page {w : World} {r rb n : Nat} {t u : Nat → Bool} {B C : Nat → Nat → Nat} {p : Nat} {L : List Value} (h : Ref w r rb n t B) (hp : p < n) (hl : L.length = 65) (h0 : L[0]? = some (.bool true)) (hL : ∀ j, j < 64 → L[1 + j]? = some (.int .u8 0)) (hu : ∀ i, u i = if i = p then true else t i) (hC : ∀ i j, C i j = if i = p then 0 else B i j) :
    Ref (w.setCells rb (p * 65) L) r rb n u C := by
  have hne := h.ne
  have hall : ∀ j, j < L.length → (w.cell? ⟨rb, p * 65 + j, none⟩).isSome = true := fun j hj => by
    by_cases e : j = 0
    · subst e; rw [Nat.add_zero, (h.on p hp).1]; rfl
    · have := (h.byte p (j - 1) hp (by omega)).1
      have e2 : p * 65 + 1 + (j - 1) = p * 65 + j := by omega
      rw [e2] at this
      rw [this]; rfl
  refine ⟨h.ne, h.le, ?_, fun i hi => ⟨?_, by rw [World.frozen?_setCells]; exact (h.on i hi).2⟩, fun i j hi hj => ⟨?_, by rw [World.frozen?_setCells]; exact (h.byte i j hi hj).2⟩, by rw [size_setCells]; exact h.lt, fun i hi => ?_, fun i j => ?_⟩
  · rw [World.cell?_setCells_out _ _ _ _ _ (fun e => absurd e hne)]
    exact h.head
  · rw [hu i]
    by_cases e : i = p
    · subst e
      rw [if_pos rfl]
      have := World.cell?_setCells_in rb L (i * 65) w hall 0 (by omega)
      rw [Nat.add_zero] at this
      rw [this, ← h0, List.getElem?_eq_getElem (by omega)]
    · rw [if_neg e, World.cell?_setCells_out _ _ _ _ _ (fun _ _ => ?_)]
      · exact (h.on i hi).1
      · show i * 65 < p * 65 ∨ p * 65 + L.length ≤ i * 65
        omega
  · rw [hC i j]
    by_cases e : i = p
    · subst e
      rw [if_pos rfl]
      have := World.cell?_setCells_in rb L (i * 65) w hall (1 + j) (by omega)
      rw [← Nat.add_assoc] at this
      rw [this]
      have h2 := hL j hj
      rw [List.getElem?_eq_getElem (by omega)] at h2
      rw [h2]; rfl
    · rw [if_neg e, World.cell?_setCells_out _ _ _ _ _ (fun _ _ => ?_)]
      · exact (h.byte i j hi hj).1
      · show i * 65 + 1 + j < p * 65 ∨ p * 65 + L.length ≤ i * 65 + 1 + j
        omega
  · rw [hu i] at hi
    split at hi
    · omega
    · exact h.only i hi
  · rw [hC i j]
    have := h.small i j
    split <;> omega
theorem zero78 : ∃ Z : Array Value, (∀ w, (zeroValue 78).run Try.prog w = .ok (.agg Z) w) ∧ Z.size = 65 ∧ (∀ j, j < 64 → Z[1 + j]? = some (.int .u8 0)) ∧ ∀ v ∈ Z.toList, v.oneCell' = true :=
  ⟨_, zero_of info78, by simp, fun j hj => by
    rw [Array.getElem?_append_right (by simp)]
    simp [hj], fun v hv => by
    simp only [Array.toList_append, List.mem_append] at hv
    rcases hv with h | h
    · simp at h; subst h; rfl
    · simp at h; subst h; rfl⟩
set_option maxRecDepth 100000 in
set_option maxHeartbeats 1000000 in
theorem rtake_ok (r rb n : Nat) (t : Nat → Bool) (B : Nat → Nat → Nat) (K : Nat) (w : World) (h : Ref w r rb n t B) (hk : K ≤ (lst n t false).length) :
    Calls Try.prog 28 #[.pointer (some ⟨r, 0, none⟩), .int .i64 (K : Int)] w fun e w' => ∃ a cap, e = .returned (.tuple #[.slice a K cap, .int .i64 0]) ∧ Own w' w.heap.size 3 a K cap (ints (nats ((lst n t false).take K))) ∧
      Ref w' r rb n (tk t ((lst n t false).take K)) (rB B ((lst n t false).take K)) ∧ But (· = rb) w w' := by
  have hd : decide ((K : Int) < 0) = false := decide_eq_false (by omega)
  have hn := h.le
  have hrl := h.rlt
  have hrb := h.lt
  have H := hid h
  have HK := hid hk
  obtain ⟨F, hF⟩ : ∃ F, (lst n t false).length = F := ⟨_, rfl⟩
  have hKF : K ≤ F := by omega
  have hd2 : decide (F < K) = false := decide_eq_false (by omega)
  have hKn : K ≤ 256 := Nat.le_trans hk (Nat.le_trans (lst_length n t false) hn)
  obtain ⟨Z, hz, hZs, hZi, hZ1⟩ := zero78
  have hZ0 : (Z = #[]) = False := eq_false (fun h => by rw [h] at hZs; simp at hZs)
  have HZ := hid (And.intro hZi hZ1)
  clear h hk hZi hZ1
  go_enter Try.func28, Try.ntmps28
  go_upto_region 7 with (first | (go_at_call 34; refine (rfree_any r rb n t B _ H.out).mono ?_; rintro e w1 ⟨rfl, b1⟩; rw [hF]))
  have H1 := hid (H.out.later b1)
  have HB1 := hid b1
  clear b1
  go_loopw [6, 7] (RTakeRel w r rb n t B K) (fun _ k _ => n - (intOf k).toNat)
  case atStart => exact ⟨0, none, 0, rfl, rfl, Nat.zero_le _, Nat.zero_le _, Own.nil _ _ _, by
    have e1 : tk t (lst 0 t false) = t := tk_nil t
    have e2 : rB B (lst 0 t false) = B := by funext i j; simp [rB, lst]
    rw [e1, e2]; exact H1.out, But.of HB1.out⟩
  case round =>
    clear H1 HB1
    obtain ⟨i, a, cap, rfl, rfl, hi, hmK, hO, hA, hB⟩ := hrel
    have HO := hid hO
    have HA := hid hA
    have HB := hid hB
    obtain ⟨m, hm⟩ : ∃ m, (lst i t false).length = m := ⟨_, rfl⟩
    rw [hm] at hmK HO
    rw [hm]
    have HM := hid hm
    clear hO hA hB hm
    by_cases hlt : m < K
    · have hd3 : decide ((m : Int) < (K : Int)) = true := decide_eq_true (by omega)
      have hin : i < n := by
        rcases Nat.lt_or_ge i n with h1 | h1
        · exact h1
        · obtain rfl : i = n := by omega
          have := HM.out
          have := HK.out
          omega
      have x := HA.out.head
      have hni : ¬ i ∈ lst i t false := fun h => by have := (mem_lst.1 h).1; omega
      have e0 : tk t (lst i t false) i = t i := by simp [tk, hni]
      have z := HA.out.on i hin
      rw [e0] at z
      have y := z.1
      clear z e0
      cases he : t i with
      | true =>
        rw [he] at y
        have e1 : lst (i + 1) t false = lst i t false := by rw [lst_succ, he]; simp
        go_wp2
        exact ⟨⟨i + 1, a, cap, by rw [e1, HM.out], rfl, by omega, by rw [e1, HM.out]; omega, by rw [e1, HM.out]; exact HO.out, by rw [e1]; exact HA.out, HB.out⟩, by simp [intOf]; omega⟩
      | false =>
        rw [he] at y
        have e1 : lst (i + 1) t false = lst i t false ++ [i] := by rw [lst_succ, he]; simp
        obtain ⟨LZ, hLZ⟩ : ∃ L, L = Z.toList.set 0 (Value.bool true) := ⟨_, rfl⟩
        have hl65 : LZ.length = 65 := by rw [hLZ, List.length_set, Array.length_toList, hZs]
        have hL0 : LZ[0]? = some (.bool true) := by rw [hLZ, List.getElem?_set_self (by rw [Array.length_toList, hZs]; omega)]
        have hLj : ∀ j, j < 64 → LZ[1 + j]? = some (.int .u8 0) := fun j hj => by
          rw [hLZ, List.getElem?_set_ne (by omega), Array.getElem?_toList]
          exact HZ.out.1 j hj
        have hL1 : ∀ v ∈ LZ, v.oneCell' = true := fun v hv => by
          rw [hLZ] at hv
          rcases List.mem_or_eq_of_mem_set hv with h1 | h1
          · exact HZ.out.2 v h1
          · rw [h1]; rfl
        have hplace : ∀ j, j < 65 → ∃ v, Lies wr ⟨rb, i * 65 + j, none⟩ v := fun j hj => by
          by_cases e : j = 0
          · subst e; exact ⟨_, HA.out.on i hin⟩
          · have := HA.out.byte i (j - 1) hin (by omega)
            have e2 : i * 65 + 1 + (j - 1) = i * 65 + j := by omega
            rw [e2] at this
            exact ⟨_, this⟩
        have hst : (storeCells ⟨rb, i * 65, none⟩ (Z.toList.set 0 (Value.bool true))).run Try.prog wr = .ok () (wr.setCells rb (i * 65) LZ) := by
          rw [← hLZ]
          exact run_storeCells_cells (P := Try.prog) rb (i * 65) LZ 0 wr (fun j hj => by obtain ⟨v, hv⟩ := hplace j (by omega); rw [Nat.add_zero, hv.1]; rfl) (fun j hj => by obtain ⟨v, hv⟩ := hplace j (by omega); rw [Nat.add_zero]; exact hv.2) hL1
        have HA2 : Hid (Ref (wr.setCells rb (i * 65) LZ) r rb n (tk t (lst (i + 1) t false)) (rB B (lst (i + 1) t false))) := hid (HA.out.page hin hl65 hL0 hLj (fun q => by
          rw [e1]
          simp only [tk, List.mem_append, List.mem_singleton]
          by_cases e : q = i
          · simp [e]
          · simp [e]) (fun q j => by
          rw [e1]
          simp only [rB, List.mem_append, List.mem_singleton]
          by_cases e : q = i
          · simp [e]
          · simp [e]))
        have hB2 : But (· = rb) wr (wr.setCells rb (i * 65) LZ) := But.setCells (S := (· = rb)) (show rb = rb from rfl) _ _ (But.refl _ _)
        have HO2 := hid (HO.out.but hB2 (fun k hk e => by have := HO.out.blk k hk; omega))
        have HB2 := hid (HB.out.trans hB2)
        generalize wr.setCells rb (i * 65) LZ = w2 at hst HA2 HO2 HB2
        obtain ⟨a', cap', w3, hrun, hO3, hG3⟩ := append_one (i : Int) (.inl HO2.out) HB2.out.size (by omega)
        have HRUN := hid hrun
        have hge : ∀ k, Blk a k → w.heap.size ≤ k := HO.out.blk
        have HO3 : Hid (Own w3 w.heap.size 3 a' (m + 1) cap' (ints (nats (lst (i + 1) t false)))) := hid (by
          rw [e1, nats_append]
          exact hO3)
        have HA3 := hid (HA2.out.but hG3.but (fun h => by have := hge r h; omega) (fun h => by have := hge rb h; omega))
        have HB3 := hid (HB2.out.comp hG3.but (fun k hk => .inr (hge k hk)))
        have hm1 : (lst (i + 1) t false).length = m + 1 := by rw [e1, List.length_append, HM.out]; rfl
        have HM1 := hid hm1
        clear hLZ hl65 hL0 hLj hL1 hplace hB2 HA2 HO2 HB2 hrun hO3 hG3 hge hm1 e1 hni
        go_wp2_with (first | (at_builtin; refine wpList_append_known rfl _ _ 22 rfl _ _ rfl rfl _ w3 HRUN.out ?_))
        exact ⟨⟨i + 1, a', cap', by rw [HM1.out], rfl, by omega, by rw [HM1.out]; omega, by rw [HM1.out]; exact HO3.out, HA3.out, HB3.out⟩, by simp [intOf]; omega⟩
    · obtain rfl : m = K := by omega
      have hd3 : decide ((m : Int) < (m : Int)) = false := by simp
      have e1 : (lst n t false).take m = lst i t false := by rw [← HM.out]; exact lst_take t false i n hi
      have HE1 := hid e1
      clear e1
      go_wp2
      exact bodyPost_ret (v := .tuple #[.slice a m cap, .int .i64 0]) (by simp [results, Try.results28, go_sem]) rfl ⟨a, cap, rfl, by rw [HE1.out]; exact HO.out, by rw [HE1.out]; exact HA.out, HB.out⟩
set_option maxRecDepth 100000 in
set_option maxHeartbeats 1000000 in
theorem rtake_neg (r : Nat) (k : Int) (w : World) (hk : k < 0) :
    Calls Try.prog 28 #[.pointer (some ⟨r, 0, none⟩), .int .i64 k] w fun e w' => e = .returned (.tuple #[.slice none 0 0, .int .i64 6]) ∧ w' = w := by
  have hd : decide (k < 0) = true := decide_eq_true hk
  go_enter Try.func28, Try.ntmps28
  go_wp2
  exact bodyPost_ret (v := .tuple #[.slice none 0 0, .int .i64 6]) (by simp [results, Try.results28, go_sem]) rfl ⟨rfl, rfl⟩
set_option maxRecDepth 100000 in
set_option maxHeartbeats 1000000 in
theorem rtake_many (r rb n : Nat) (t : Nat → Bool) (B : Nat → Nat → Nat) (k : Int) (w : World) (h : Ref w r rb n t B) (h0 : 0 ≤ k) (hk : ((lst n t false).length : Int) < k) :
    Calls Try.prog 28 #[.pointer (some ⟨r, 0, none⟩), .int .i64 k] w fun e w' => e = .returned (.tuple #[.slice none 0 0, .int .i64 8]) ∧ Below w.heap.size w w' := by
  have hd : decide (k < 0) = false := decide_eq_false (by omega)
  obtain ⟨F, hF⟩ : ∃ F, (lst n t false).length = F := ⟨_, rfl⟩
  rw [hF] at hk
  have hd2 : decide (k > (F : Int)) = true := decide_eq_true (by omega)
  have H := hid h
  clear h
  go_enter Try.func28, Try.ntmps28
  go_wp2_with (first | (go_at_call 34; refine (rfree_any r rb n t B _ H.out).mono ?_; rintro e w1 ⟨rfl, b1⟩; rw [hF]))
  exact bodyPost_ret (v := .tuple #[.slice none 0 0, .int .i64 8]) (by simp [results, Try.results28, go_sem]) rfl ⟨rfl, b1⟩
end Go.Proofs.Ytfcfacchppkmdaa
