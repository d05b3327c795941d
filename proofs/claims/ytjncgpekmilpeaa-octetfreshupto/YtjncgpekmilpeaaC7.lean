import Derived.Test.YtjncgpekmilpeaaC6
namespace Go.Proofs.Ytjncgpekmilpeaa
open Go.RowKit
set_option linter.unusedVariables false

def strB (l : List Nat) : ByteArray := ⟨(l.map UInt8.ofNat).toArray⟩
theorem strB_inj {L M : List Nat} (hL : ∀ x ∈ L, x < 256) (hM : ∀ x ∈ M, x < 256) (h : strB L = strB M) : L = M := by
  unfold strB at h
  have h1 : L.map UInt8.ofNat = M.map UInt8.ofNat := by simpa using h
  have key : ∀ (K : List Nat), (∀ x ∈ K, x < 256) → (K.map UInt8.ofNat).map UInt8.toNat = K := by
    intro K hK
    rw [List.map_map]
    conv => rhs; rw [← List.map_id K]
    apply List.map_congr_left
    intro x hx
    have := hK x hx
    simp [UInt8.toNat_ofNat']
    omega
  rw [← key L hL, ← key M hM, h1]
theorem conv_none (W : World) : (convert 22 9 (.slice none 0 0)).run Try.prog W = .ok (.string (strB [])) W := by
  rw [run_convert_bytes_string W 22 9 5 none 0 0 Try.underlying22 Try.underlying5 Try.underlying9]
  rfl
theorem Row.conv {w : World} {a : Option Addr} {n cap : Nat} {L : List Nat} (h : Row w a n cap L) : (convert 22 9 (.slice a n cap)).run Try.prog w = .ok (.string (strB L)) w := by
  cases a with
  | none =>
    obtain ⟨rfl, rfl⟩ := h.none_ rfl
    have hL : L = [] := List.eq_nil_of_length_eq_zero h.len
    subst hL
    exact conv_none w
  | some x =>
    have hl : (L.map UInt8.ofNat).length = n := by simp [h.len]
    have := run_convert_bytes_back (P := Try.prog) w 22 9 5 x cap (L.map UInt8.ofNat) Try.underlying22 Try.underlying5 Try.underlying9 (fun j hj => by
      have hj' : j < L.length := by simpa using hj
      rw [h.cells x rfl j _ (u8s_get L j hj')]
      have := h.small _ (List.getElem_mem hj')
      simp [UInt8.toNat_ofNat']
      omega)
    rw [hl] at this
    exact this

set_option maxRecDepth 100000 in
set_option maxHeartbeats 1000000 in
theorem same_any (a b : Option Addr) (n m c d : Nat) (L M : List Nat) (w : World) (h : Row w a n c L) (k : Row w b m d M) :
    Calls Try.prog 18 #[.slice a n c, .slice b m d] w fun e w' => e = .returned (.bool (decide (L = M))) ∧ w' = w := by
  have c1 := h.conv
  have c2 := k.conv
  have HE : Hid (((strB L).toList == (strB M).toList) = decide (L = M)) := by
    unfold Hid
    rw [Bool.eq_iff_iff, ByteArray.toList_eq, ByteArray.toList_eq]
    simp only [beq_iff_eq, decide_eq_true_eq]
    exact ⟨fun e => strB_inj h.small k.small (by apply ByteArray.ext; exact Array.toList_inj.1 e), fun e => by rw [e]⟩
  clear h k
  go_enter Try.func18, Try.ntmps18
  go_wp2
  go_ret
  exact ⟨ret_bool HE.out, rfl⟩

def marks (k : Nat) : List Nat := (List.range k).map (· % 256)
theorem marks_succ (k : Nat) : marks (k + 1) = marks k ++ [k % 256] := by simp [marks, List.range_succ]
theorem marks_length (k : Nat) : (marks k).length = k := by simp [marks]
theorem marks_get (k i : Nat) (h : i < (marks k).length) : (marks k)[i] = i % 256 := by simp [marks]
theorem marks_small (k : Nat) : ∀ x ∈ marks k, x < 256 := by
  intro x hx
  simp only [marks, List.mem_map] at hx
  obtain ⟨i, _, rfl⟩ := hx
  omega
def LentRel (w : World) (n : Nat) (L : List Nat) (l t : Value) (w' : World) : Prop :=
  ∃ (i : Nat) (a : Option Addr) (cap : Nat), i ≤ 300 ∧ t = .int .i64 (i : Int) ∧ l = .slice a (n + i) cap ∧ Own w' w.heap.size a (n + i) cap (L ++ marks i) ∧ Below w.heap.size w w'
/-- A list with 300 marks behind it, in memory of its own (block g). -/
structure Lent (w : World) (base g n cap : Nat) (L : List Nat) : Prop where
  own : Own w base (some ⟨g, 0, none⟩) (n + 300) cap (L ++ marks 300)
  len : L.length = n
set_option maxRecDepth 100000 in
set_option maxHeartbeats 1000000 in
theorem lent_any (a : Option Addr) (n cap : Nat) (L : List Nat) (w : World) (h : Row w a n cap L) (hr : n + 300 ≤ 140737488355328) :
    Calls Try.prog 8 #[.slice a n cap] w fun e w' => ∃ g c, e = .returned (.slice (some ⟨g, 0, none⟩) n c) ∧ Lent w' w.heap.size g n c L ∧ Below w.heap.size w w' := by
  have HR : Hid (n + 300 ≤ 140737488355328) := hr
  have hlen := h.len
  obtain ⟨a0, c0, w0, hrun0, hown0, hg0⟩ := append_any (Own.nil w w.heap.size) h (Nat.le_refl _) (by omega)
  have HRUN0 : Hid _ := hrun0
  have H0 : Hid (LentRel w n L (.slice a0 (n + 0) c0) (.int .i64 0) w0) := ⟨0, a0, c0, by omega, rfl, rfl, by simpa [marks, Nat.add_comm] using hown0, by have := hg0.below (Own.nil w w.heap.size) (Nat.le_refl _); exact this⟩
  have hz : 0 + n = n := Nat.zero_add n
  rw [hz] at HRUN0
  clear h hr hrun0 hown0 hg0
  go_enter Try.func8, Try.ntmps8
  go_wp2_with (first | (at_builtin; refine wpList_append_known rfl _ _ 22 rfl _ _ rfl rfl _ w0 HRUN0.out ?_))
  go_loopw [3, 4] (LentRel w n L) (fun _ t _ => 300 - (intOf t).toNat)
  case atStart => exact H0.out
  case round =>
    clear H0 HRUN0
    obtain ⟨i, a', cap', hi, rfl, rfl, hown, hB⟩ := hrel
    by_cases hlt : i < 300
    · have hd : decide ((i : Int) < 300) = true := by simp; omega
      have e1 : IntKind.u8.wrap (i : Int) = ((i % 256 : Nat) : Int) := by rw [IntKind.wrap_u8]; omega
      obtain ⟨a2, c2, w2, hrun, hown2, hB2⟩ := append_byte (b := i % 256) hown hB.size (by have := HR.out; omega) (by omega)
      have HRUN : Hid _ := hrun
      have HO : Hid (Own w2 w.heap.size a2 (n + (i + 1)) c2 (L ++ marks (i + 1))) := by rw [marks_succ, ← List.append_assoc]; exact hown2
      have HB : Hid (Below w.heap.size w w2) := hB.trans (hB2.below hown hB.size)
      clear hrun hown hown2 hB hB2
      go_wp2_with (first | (at_builtin; refine wpList_append_known rfl _ _ 22 rfl _ _ rfl rfl _ w2 HRUN.out ?_))
      go_roundw
      case rel => exact ⟨i + 1, a2, c2, by omega, by go_num, rfl, HO.out, HB.out⟩
      case measure => simp [intOf]; omega
    · obtain rfl : i = 300 := by omega
      obtain ⟨g, hg⟩ : ∃ g, a' = some ⟨g, 0, none⟩ := by
        rcases hown.row.2 with ⟨h, h'⟩ | ⟨g, c, cur, hv, _⟩
        · omega
        · simp only [Value.slice.injEq] at hv; exact ⟨g, hv.1⟩
      subst hg
      have hcap := hown.read.cap_
      have hc1 : (n : Int) ≤ (cap' : Int) := by omega
      go_wp2
      go_ret
      exact ⟨g, cap', rfl, ⟨hown, hlen⟩, hB⟩
theorem Lent.row {w : World} {base g n cap : Nat} {L : List Nat} (h : Lent w base g n cap L) : Row w (some ⟨g, 0, none⟩) n cap L := by
  have hr := h.own.read
  have hl := h.len
  refine Row.at hl (by have := hr.cap_; omega) (fun x hx => h.own.small x (List.mem_append_left _ hx)) (fun i hi => ?_)
  have := hr.cells _ rfl i _ (u8s_get (L ++ marks 300) i (by simp; omega))
  rw [addr_add] at this
  rw [this, List.getElem_append_left hi]
theorem Lent.mark {w : World} {base g n cap : Nat} {L : List Nat} (h : Lent w base g n cap L) (i : Nat) (hi : i < 300) : w.cell? ⟨g, n + i, none⟩ = some (.int .u8 ((i % 256 : Nat) : Int)) := by
  have hr := h.own.read
  have hl := h.len
  have := hr.cells _ rfl (n + i) _ (u8s_get (L ++ marks 300) (n + i) (by simp [marks_length]; omega))
  rw [addr_add0] at this
  rw [this, List.getElem_append_right (by omega), marks_get]
  congr 3
  omega
theorem Lent.later {W w1 : World} {base g n cap : Nat} {L : List Nat} (hb : Below W.heap.size W w1) (h : Lent W base g n cap L) : Lent w1 base g n cap L := ⟨h.own.later hb, h.len⟩
theorem Lent.alloc {w : World} {base g n cap : Nat} {L : List Nat} (h : Lent w base g n cap L) (o : Obj) : Lent (w.alloc o) base g n cap L := h.later (below1 _ _)
theorem Lent.but {S : Nat → Prop} {w w' : World} {base g n cap : Nat} {L : List Nat} (hb : But S w w') (h : Lent w base g n cap L) (hS : ∀ k, base ≤ k → ¬ S k) : Lent w' base g n cap L := ⟨h.own.but hb hS, h.len⟩

set_option maxRecDepth 100000 in
set_option maxHeartbeats 1000000 in
theorem kept_any (g n cap base : Nat) (a : Option Addr) (m c : Nat) (L : List Nat) (w : World) (h : Lent w base g n cap L) (k : Row w a m c L) (hr : n + 300 ≤ 140737488355328) :
    Calls Try.prog 19 #[.slice (some ⟨g, 0, none⟩) n cap, .slice a m c] w fun e w' => e = .returned (.bool true) ∧ w' = w := by
  have hrow := h.row
  have hcap : n + 300 ≤ cap := h.own.read.cap_
  have hc1 : (n : Int) + 300 ≤ (cap : Int) := by omega
  have ew : IntKind.i64.wrap ((n : Int) + 300) = (n : Int) + 300 := by rw [IntKind.wrap_i64]; omega
  have HR : Hid (n + 300 ≤ 140737488355328) := hr
  have HL : Hid (∀ i, i < 300 → w.cell? ⟨g, n + i, none⟩ = some (.int .u8 ((i % 256 : Nat) : Int))) := fun i hi => h.mark i hi
  have hd : decide (L = L) = true := by simp
  have hnn : (0 : Int) ≤ (n : Int) + 300 := by omega
  have htn : ((n : Int) + 300).toNat = n + 300 := by omega
  clear h hr
  go_enter Try.func19, Try.ntmps19
  go_wp2_with (first | (go_at_call 18; refine (same_any _ _ _ _ _ _ L L _ hrow k).mono ?_; rintro e w1 ⟨rfl, rfl⟩; rw [hd]))
  rename World => w
  go_loop [6] (fun t => ∃ i : Nat, i ≤ 300 ∧ t = .int .i64 (i : Int)) (fun t => 300 - (intOf t).toNat)
  case atStart => exact ⟨0, by omega, rfl⟩
  case round =>
    obtain ⟨i, hi, rfl⟩ := hrel
    by_cases hlt : i < 300
    · have hdi : decide ((i : Int) < 300) = true := by simp; omega
      have hc := HL.out i hlt
      have e1 : IntKind.u8.wrap (i : Int) = ((i % 256 : Nat) : Int) := by rw [IntKind.wrap_u8]; omega
      have e2 : IntKind.i64.wrap ((n : Int) + (i : Int)) = (n : Int) + (i : Int) := by have := HR.out; rw [IntKind.wrap_i64]; omega
      have e3 : ((n : Int) + (i : Int)).toNat = n + i := by omega
      have e4 : (n : Int) + (i : Int) < (n : Int) + 300 := by omega
      have e5 : (0 : Int) ≤ (n : Int) + (i : Int) := by omega
      go_wp2
      exact ⟨⟨i + 1, by omega, by go_num⟩, by simp [intOf]; omega⟩
    · obtain rfl : i = 300 := by omega
      go_wp2
      go_ret
      exact ⟨rfl, rfl⟩

/-- A list of lists of bytes: each with what it reads. -/
abbrev R4 := Option Addr × Nat × Nat × List Nat
def val4 (r : R4) : Value := .slice r.1 r.2.1 r.2.2.1
def cat4 : List R4 → List Nat
  | [] => []
  | r :: rs => r.2.2.2 ++ cat4 rs
theorem cat4_append (rs qs : List R4) : cat4 (rs ++ qs) = cat4 rs ++ cat4 qs := by
  induction rs with
  | nil => rfl
  | cons r rs ih => simp [cat4, ih]
theorem cat4_take (rs : List R4) (i : Nat) (h : i < rs.length) : cat4 (rs.take (i + 1)) = cat4 (rs.take i) ++ rs[i].2.2.2 := by
  rw [List.take_succ_eq_append_getElem h, cat4_append]
  simp [cat4]
theorem cat4_take_le (rs : List R4) (i : Nat) : (cat4 (rs.take i)).length ≤ (cat4 rs).length := by
  have : cat4 rs = cat4 (rs.take i) ++ cat4 (rs.drop i) := by rw [← cat4_append, List.take_append_drop]
  rw [this, List.length_append]
  omega
def SumRel (rs : List R4) (z t : Value) : Prop := ∃ i : Nat, i ≤ rs.length ∧ t = .int .i64 (i : Int) ∧ z = .int .i64 ((cat4 (rs.take i)).length : Int)
def CatRel (w : World) (rs : List R4) (o t : Value) (w' : World) : Prop := ∃ (i : Nat) (a : Option Addr) (n cap : Nat), i ≤ rs.length ∧ t = .int .i64 (i : Int) ∧ o = .slice a n cap ∧ Own w' w.heap.size a n cap (cat4 (rs.take i)) ∧ Below w.heap.size w w'
set_option maxRecDepth 100000 in
set_option maxHeartbeats 1000000 in
theorem join_any (b cap k : Nat) (rs : List R4) (w : World) (hk : k = rs.length) (hrl : rs.length < 1000) (hc : ∀ j (hj : j < rs.length), w.cell? ⟨b, j, none⟩ = some (val4 rs[j])) (hrow : ∀ r ∈ rs, Row w r.1 r.2.1 r.2.2.1 r.2.2.2) (hr : (cat4 rs).length ≤ 140737488355328) :
    Calls Try.prog 17 #[.slice (some ⟨b, 0, none⟩) k cap] w fun e w' => ∃ a' n' cap', e = .returned (.slice a' n' cap') ∧ Own w' w.heap.size a' n' cap' (cat4 rs) ∧ Below w.heap.size w w' := by
  subst hk
  have HC : Hid (∀ j (hj : j < rs.length), w.cell? ⟨b, j, none⟩ = some (val4 rs[j])) := hc
  have HRow : Hid (∀ r ∈ rs, Row w r.1 r.2.1 r.2.2.1 r.2.2.2) := hrow
  have HR : Hid ((cat4 rs).length ≤ 140737488355328) := hr
  clear hc hrow hr
  go_enter Try.func17, Try.ntmps17
  go_wp2
  go_loop [3, 11] (SumRel rs) (fun _ t => rs.length - (intOf t).toNat)
  case atStart => exact ⟨0, by omega, rfl, rfl⟩
  case round =>
    obtain ⟨i, hi, rfl, rfl⟩ := hrel
    have ei : IntKind.i64.wrap ((i : Int) + 1) = (i : Int) + 1 := by rw [IntKind.wrap_i64]; omega
    by_cases hlt : i < rs.length
    · have hd : decide ((i : Int) < (rs.length : Int)) = true := by simp; omega
      have hcell := HC.out i hlt
      obtain ⟨a1, n1, c1, L1, hri⟩ : ∃ a1 n1 c1 L1, rs[i] = (a1, n1, c1, L1) := ⟨_, _, _, _, rfl⟩
      have hR := HRow.out _ (List.getElem_mem hlt)
      have hct := cat4_take rs i hlt
      have hle := cat4_take_le rs (i + 1)
      rw [hri] at hcell hR hct
      simp only [val4] at hcell
      have hlen := hR.len
      simp only at hlen hct
      have HT : Hid ((cat4 (rs.take (i + 1))).length = (cat4 (rs.take i)).length + n1) := by unfold Hid; rw [hct, List.length_append, hlen]
      have ew : IntKind.i64.wrap (((cat4 (rs.take i)).length : Int) + (n1 : Int)) = ((cat4 (rs.take i)).length : Int) + (n1 : Int) := by
        have := HR.out
        have := HT.out
        rw [IntKind.wrap_i64]; omega
      clear hR hct hle hri
      go_wp2
      exact ⟨⟨i + 1, by omega, by simp, by rw [HT.out]; simp⟩, by simp [intOf]; omega⟩
    · obtain rfl : i = rs.length := by omega
      rename World => w
      rw [List.take_length]
      obtain ⟨z, hz⟩ : ∃ z, z = (cat4 rs).length := ⟨_, rfl⟩
      have HZ : Hid (0 + z ≤ 140737488355328) := by have := HR.out; unfold Hid; omega
      rw [← hz]
      clear hz ei
      go_wp2_with (first | (go_at_call 37; refine (room_any none 0 0 z [] _ (row_nil _) HZ.out).mono ?_; rintro e w2 ⟨g, rfl, hown, hb⟩))
      go_loopw [6, 24] (CatRel w rs) (fun _ t _ => rs.length - (intOf t).toNat)
      case atStart => exact ⟨0, _, _, _, by omega, rfl, rfl, by simpa [cat4] using hown, hb⟩
      case round =>
        clear hown hb hlt hi
        obtain ⟨i, a', n', cap', hi, rfl, rfl, hown, hB⟩ := hrel
        have ei : IntKind.i64.wrap ((i : Int) + 1) = (i : Int) + 1 := by rw [IntKind.wrap_i64]; omega
        by_cases hlt : i < rs.length
        · have hd : decide ((i : Int) < (rs.length : Int)) = true := by simp; omega
          have hcell := cell_later hB (HC.out i hlt)
          obtain ⟨a1, n1, c1, L1, hri⟩ : ∃ a1 n1 c1 L1, rs[i] = (a1, n1, c1, L1) := ⟨_, _, _, _, rfl⟩
          have hR := (HRow.out _ (List.getElem_mem hlt)).later hB
          have hct := cat4_take rs i hlt
          have hle := cat4_take_le rs (i + 1)
          rw [hri] at hcell hR hct
          simp only [val4] at hcell
          simp only at hR hct
          have hl1 := hR.len
          have hl2 := hown.len
          have hl3 : (cat4 (rs.take (i + 1))).length = (cat4 (rs.take i)).length + L1.length := by rw [hct, List.length_append]
          obtain ⟨a2, c2, w3, hrun, hown2, hg2⟩ := append_any hown hR hB.size (by have := HR.out; omega)
          rw [← hct] at hown2
          have HRUN : Hid _ := hrun
          have HB : Hid (Below w.heap.size w w3) := hB.trans (hg2.below hown hB.size)
          clear hrun hown hB hg2 hR hct hle hri hl1 hl2 hl3
          go_wp2_with (first | (at_builtin; refine wpList_append_known rfl _ _ 22 rfl _ _ rfl rfl _ w3 HRUN.out ?_))
          go_roundw
          case rel => exact ⟨i + 1, a2, _, c2, by omega, by simp, rfl, hown2, HB.out⟩
          case measure => simp [intOf]; omega
        · obtain rfl : i = rs.length := by omega
          rw [List.take_length] at hown
          go_wp2
          go_ret
          exact ⟨_, _, _, rfl, hown, hB⟩
set_option maxRecDepth 100000 in
set_option maxHeartbeats 1000000 in
theorem join_nil (w : World) : Calls Try.prog 17 #[.slice none 0 0] w fun e w' => ∃ a' cap', e = .returned (.slice a' 0 cap') ∧ Own w' w.heap.size a' 0 cap' [] ∧ Below w.heap.size w w' := by
  go_enter Try.func17, Try.ntmps17
  go_wp2
  go_loop [3, 11] (fun z t => z = .int .i64 0 ∧ t = .int .i64 0) (fun _ t => 0)
  case atStart => exact ⟨rfl, rfl⟩
  case round =>
    obtain ⟨rfl, rfl⟩ := hrel
    rename World => w
    go_wp2_with (first | (go_at_call 37; refine (room_any none 0 0 0 [] _ (row_nil _) (by omega)).mono ?_; rintro e w2 ⟨g, rfl, hown, hb⟩))
    rename World => w2
    go_loop [6, 24] (fun o t => o = .slice (some ⟨g, 0, none⟩) 0 0 ∧ t = .int .i64 0) (fun _ _ => 0)
    case atStart => exact ⟨rfl, rfl⟩
    case round =>
      obtain ⟨rfl, rfl⟩ := hrel
      go_wp2
      go_ret
      exact ⟨_, _, rfl, hown, hb⟩

set_option maxRecDepth 100000 in
set_option maxHeartbeats 1000000 in
theorem head_any (w : World) : Calls Try.prog 7 #[] w fun e w' => e = .returned (.bool true) ∧ Below w.heap.size w w' := by
  have R0 : Hid (Row (w.alloc (Obj.cells #[Value.int .u8 9] 5)) (some ⟨w.heap.size, 0, none⟩) 1 1 [9]) := Row.one w 9 (by omega)
  go_enter Try.func7, Try.ntmps7
  go_upto_region 2 with (first | (go_at_call 13; refine (put16 _ _ _ [9] 258 _ (by omega) R0.out (by omega)).mono ?_; rintro e w1 ⟨a1, c1, rfl, hown1, hb1⟩; have hb0 := below_call (below1 _ _) hb1; clear hb1))
  have hw1 := hb0.size
  have R1 : Row (w1.alloc (Obj.cells #[Value.int .u8 5, Value.int .u8 0, Value.int .u8 7] 5)) (some ⟨w1.heap.size, 0, none⟩) 3 3 [5, 0, 7] :=
    Row.at (L := [5, 0, 7]) rfl (Nat.le_refl _) (by decide) (fun i hi => by
      have : i = 0 ∨ i = 1 ∨ i = 2 := by simp at hi; omega
      rcases this with rfl | rfl | rfl <;> simp [go_sem])
  go_upto_region 3 with (first | (go_at_call 9; refine (newReader_any _ _ _ [5, 0, 7] _ R1 (by omega)).mono ?_; rintro e w2 ⟨g, gb, rfl, hrd, hg, hgb, hb2⟩; replace hown1 := (hown1.alloc _).later hb2; replace hb0 := below_call (below_call hb0 (below1 _ _)) hb2))
  have hs1 := hb0.size
  have R2 : Row (w2.alloc (Obj.cells #[Value.int .u8 9, Value.int .u8 2, Value.int .u8 1] 5)) (some ⟨w2.heap.size, 0, none⟩) 3 3 [9, 2, 1] :=
    Row.at (L := [9, 2, 1]) rfl (Nat.le_refl _) (by decide) (fun i hi => by
      have : i = 0 ∨ i = 1 ∨ i = 2 := by simp at hi; omega
      rcases this with rfl | rfl | rfl <;> simp [go_sem])
  have hd : decide ([9] ++ leL 258 2 = [9, 2, 1]) = true := by decide
  go_upto_region 5 with (first | (go_at_call 18; refine (same_any _ _ _ _ _ _ ([9] ++ leL 258 2) [9, 2, 1] _ (hown1.alloc _).read R2).mono ?_; rintro e w3 ⟨rfl, rfl⟩; rw [hd]))
  have q1 : intV [5, 0, 7] 2 4 = 0 := by decide
  have q2 : intE [5, 0, 7] 2 4 = 5 := by decide
  have q3 : ([5, 0, 7].drop (intN [5, 0, 7] 2 4)) = [5, 0, 7] := by decide
  have q4 : intV [5, 0, 7] 2 5 = 5 := by decide
  have q5 : intE [5, 0, 7] 2 5 = 0 := by decide
  have q6 : ([5, 0, 7].drop (intN [5, 0, 7] 2 5)) = [7] := by decide
  have q7 : endE [7] = 23 := by decide
  replace hrd := hrd.alloc (Obj.cells #[Value.int .u8 9, Value.int .u8 2, Value.int .u8 1] 5)
  have hb1 := hb0.alloc hb0.size (Obj.cells #[Value.int .u8 9, Value.int .u8 2, Value.int .u8 1] 5)
  clear R1 R2
  go_upto_region 6 with (first | (go_at_call 36; refine (int_any g gb [5, 0, 7] 2 4 _ hrd (by omega)).mono ?_; rintro e w4 ⟨rfl, hrd4, hbut4⟩; rw [q1, q2]; rw [q3] at hrd4; replace hb1 := But.below hb1 hbut4 (fun k hk => by simp at hg; omega)))
  go_upto_region 7 with (first | (go_at_call 36; refine (int_any g gb [5, 0, 7] 2 5 _ hrd4 (by omega)).mono ?_; rintro e w5 ⟨rfl, hrd5, hbut5⟩; rw [q4, q5]; rw [q6] at hrd5; replace hb1 := But.below hb1 hbut5 (fun k hk => by simp at hg; omega)))
  go_wp2_with (first | (go_at_call 24; refine (left_any g gb [7] _ hrd5).mono ?_; rintro e w6 ⟨rfl, rfl⟩) | (go_at_call 26; refine (end_any g gb [7] _ hrd5).mono ?_; rintro e w6 ⟨rfl, rfl⟩; rw [q7]))
  go_ret
  exact ⟨rfl, hb1⟩
end Go.Proofs.Ytjncgpekmilpeaa
