import Derived.Test.YticgammbjcdobaaCA
import Derived.Deep.DeepCutAuto
namespace Go.Proofs.Yticgammbjcdobaa
open Go.RowKit
set_option linter.unusedVariables false
theorem own_but {S : Nat → Prop} {w w' : World} {base : Nat} {e : TypeId} {size : Nat} {v : Value} {n : Nat} {xs : List Value} (hb : But S w w') (h : w.ownsRow base e size v n xs) (hS : ∀ k, base ≤ k → ¬ S k) : w'.ownsRow base e size v n xs := by
  refine ⟨h.1, ?_⟩
  rcases h.2 with h | ⟨g, cap, cur, hv, hg, hh, r⟩
  · exact .inl h
  · exact .inr ⟨g, cap, cur, hv, hg, by rw [hb.block g (Array.getElem?_eq_some_iff.1 hh).1 (hS g hg)]; exact hh, r⟩
theorem Own.but {S : Nat → Prop} {w w' : World} {base : Nat} {a : Option Addr} {n cap : Nat} {L : List Nat} (hb : But S w w') (h : Own w base a n cap L) (hS : ∀ k, base ≤ k → ¬ S k) : Own w' base a n cap L := ⟨own_but hb h.row hS, h.small⟩
theorem But.put {S : Nat → Prop} {a w : World} (h : But S a w) {p : Addr} (hp : a.heap.size ≤ p.block) (u : Value) : But S a (w.setCell p u) :=
  ⟨h.os, h.tape, h.output, by simpa using h.size, fun k hk hn => by rw [Below.heap_setCell _ _ _ _ (by omega)]; exact h.block k hk hn⟩
end Go.Proofs.Yticgammbjcdobaa
namespace Go.Proofs.Yticgammbjcdobaa
open Go.RowKit
set_option linter.unusedVariables false
def Box (w : World) (k : Nat) (a b : Int) : Prop := w.cell? ⟨k, 0, none⟩ = some (.int .u64 a) ∧ w.cell? ⟨k, 1, none⟩ = some (.int .u64 b)
theorem Box.new (w : World) (a b : Int) : Box (w.alloc (.cells #[.int .u64 a, .int .u64 b] 29)) w.heap.size a b := ⟨by simp [go_sem], by simp [go_sem]⟩
theorem Box.but {S : Nat → Prop} {w w' : World} {k : Nat} {a b : Int} (hb : But S w w') (h : Box w k a b) (hn : ¬ S k) : Box w' k a b := by
  have hk := hb.block k (World.block_lt_of_cell? _ _ h.1) hn
  exact ⟨by rw [World.cell?_of_block (w := w) hk]; exact h.1, by rw [World.cell?_of_block (w := w) hk]; exact h.2⟩
theorem Own.drew {w : World} {base : Nat} {a : Option Addr} {n cap : Nat} {L : List Nat} (h : Own w base a n cap L) : Own w.drew base a n cap L := h.later (Below.refl _ _).drew
theorem Own.lt {w : World} {base : Nat} {a : Option Addr} {n cap : Nat} {L : List Nat} (h : Own w base a n cap L) : ∀ k, Blk a k → k < w.heap.size := by
  intro k ⟨x, hx, hk⟩
  subst hx
  rcases h.row.2 with ⟨h, _⟩ | ⟨g', c, cur, hv, _, hh, _⟩
  · simp at h
  · simp only [Value.slice.injEq, Option.some.injEq] at hv
    obtain ⟨rfl, _⟩ := hv
    subst hk
    exact (Array.getElem?_eq_some_iff.1 hh).1
theorem grown_apart {a a' : Option Addr} {w w' : World} {k : Nat} (g : Gr a a' w w') (hk : k < w.heap.size) (hn : ¬ Blk a k) : ¬ Blk a' k := fun h => by
  rcases g.on k h with h1 | h1
  · exact hn h1
  · omega
set_option maxRecDepth 100000 in
set_option maxHeartbeats 1000000 in
theorem layWord_any (a : Option Addr) (n cap : Nat) (L : List Nat) (hi lo : Nat) (w : World) (base : Nat) (hhi : hi < 18446744073709551616) (hlo : lo < 18446744073709551616) (h : Own w base a n cap L) (hb : base ≤ w.heap.size) (hr : n + 16 ≤ 140737488355328) :
    Calls Try.prog 86 #[.slice a n cap, .agg #[.int .u64 (hi : Int), .int .u64 (lo : Int)]] w fun e w' => ∃ a' cap', e = .returned (.slice a' (n + 16) cap') ∧ Own w' base a' (n + 16) cap' (L ++ leL lo 8 ++ leL hi 8) ∧ Gr a a' w w' := by
  have HR : Hid (n + 16 ≤ 140737488355328) := hr
  have hnb : ¬ Blk a w.heap.size := fun hk => by have := h.lt _ hk; omega
  have H0 : Hid (Own (w.alloc (Obj.cells #[Value.int IntKind.u64 (hi : Int), Value.int IntKind.u64 (lo : Int)] 29)).drew base a n cap L) := (h.alloc _).drew
  have X0 : Hid (Box (w.alloc (Obj.cells #[Value.int IntKind.u64 (hi : Int), Value.int IntKind.u64 (lo : Int)] 29)).drew w.heap.size hi lo) := Box.new w hi lo
  clear h hr
  go_enter Try.func86, Try.ntmps86
  go_wp2
  go_region_held3 (fun w' => (w'.cell? ⟨w.heap.size, 0, none⟩ = some (.int .u64 (hi : Int)) ∧ w'.cell? ⟨w.heap.size, 1, none⟩ = some (.int .u64 (lo : Int)))) (first | exact X0.out | exact X1 | exact X2) (first | (go_at_call 85; refine (lay64 _ _ _ _ hi _ base hhi hown1 (by simp at hs1; omega) (by have := HR.out; omega)).mono ?_; rintro e w2 ⟨a2, c2, rfl, hown2, hg2⟩; have X2 := X1.but hg2.but (grown_apart hg1 (by simp) hnb)) | (go_at_call 85; refine (lay64 a n cap L lo _ base hlo H0.out (by simp; omega) (by have := HR.out; omega)).mono ?_; rintro e w1 ⟨a1, c1, rfl, hown1, hg1⟩; have X1 := X0.out.but hg1.but hnb; have hs1 := hg1.but.size))
  go_wp2
  go_ret
  refine ⟨a2, c2, rfl, hown2, ?_⟩
  exact (hg1.trans hg2).pre (((below1 _ _)).drew)
def CBox (w : World) (k : Nat) (o a b : Int) : Prop := w.cell? ⟨k, 0, none⟩ = some (.int .i64 o) ∧ w.cell? ⟨k, 1, none⟩ = some (.int .u64 a) ∧ w.cell? ⟨k, 2, none⟩ = some (.int .u64 b)
theorem CBox.new (w : World) (o a b : Int) : CBox (w.alloc (.cells #[.int .i64 o, .int .u64 a, .int .u64 b] 31)) w.heap.size o a b := ⟨by simp [go_sem], by simp [go_sem], by simp [go_sem]⟩
theorem CBox.but {S : Nat → Prop} {w w' : World} {k : Nat} {o a b : Int} (hb : But S w w') (h : CBox w k o a b) (hn : ¬ S k) : CBox w' k o a b := by
  have hk := hb.block k (World.block_lt_of_cell? _ _ h.1) hn
  exact ⟨by rw [World.cell?_of_block (w := w) hk]; exact h.1, by rw [World.cell?_of_block (w := w) hk]; exact h.2.1, by rw [World.cell?_of_block (w := w) hk]; exact h.2.2⟩
theorem CBox.later {w w' : World} {k : Nat} {o a b : Int} (hb : Below w.heap.size w w') (h : CBox w k o a b) : CBox w' k o a b := h.but (S := fun _ => False) (But.of hb) (fun h => h)
theorem Box.later {w w' : World} {k : Nat} {a b : Int} (hb : Below w.heap.size w w') (h : Box w k a b) : Box w' k a b := h.but (S := fun _ => False) (But.of hb) (fun h => h)
def pcE (o : Int) : Int := if o < 0 ∨ 4611686018427387904 < o then 5 else 0
def pcL (L : List Nat) (o : Int) (hi lo : Nat) : List Nat := if pcE o = 0 then L ++ leL o.toNat 8 ++ leL lo 8 ++ leL hi 8 else []
set_option maxRecDepth 100000 in
set_option maxHeartbeats 1000000 in
theorem putCap_any (a : Option Addr) (n cap : Nat) (L : List Nat) (o : Int) (hi lo : Nat) (w : World) (hhi : hi < 18446744073709551616) (hlo : lo < 18446744073709551616) (h : Row w a n cap L) (hr : n + 24 ≤ 140737488355328) :
    Calls Try.prog 83 #[.slice a n cap, .agg #[.int .i64 o, .int .u64 (hi : Int), .int .u64 (lo : Int)]] w fun e w' => ∃ a' n' cap', e = .returned (.tuple #[.slice a' n' cap', .int .i64 (pcE o)]) ∧ Own w' w.heap.size a' n' cap' (pcL L o hi lo) ∧ Below w.heap.size w w' := by
  by_cases h0 : o < 0
  · have e1 : pcE o = 5 := by unfold pcE; rw [if_pos (.inl h0)]
    have e2 : pcL L o hi lo = [] := by unfold pcL; rw [e1, if_neg (by omega)]
    rw [e1, e2]
    have hd : decide (o < 0) = true := decide_eq_true h0
    go_enter Try.func83, Try.ntmps83
    go_wp2
    exact bodyPost_ret (v := .tuple #[.slice none 0 0, .int .i64 5]) (by simp [results, Try.results83, go_sem]) rfl ⟨none, 0, 0, rfl, Own.nil _ _, below1 _ _⟩
  by_cases h1 : 4611686018427387904 < o
  · have e1 : pcE o = 5 := by unfold pcE; rw [if_pos (.inr h1)]
    have e2 : pcL L o hi lo = [] := by unfold pcL; rw [e1, if_neg (by omega)]
    rw [e1, e2]
    have hd : decide (o < 0) = false := decide_eq_false h0
    have hd1 : decide (4611686018427387904 < o) = true := decide_eq_true h1
    go_enter Try.func83, Try.ntmps83
    go_wp2
    exact bodyPost_ret (v := .tuple #[.slice none 0 0, .int .i64 5]) (by simp [results, Try.results83, go_sem]) rfl ⟨none, 0, 0, rfl, Own.nil _ _, below1 _ _⟩
  have e1 : pcE o = 0 := by unfold pcE; rw [if_neg (by omega)]
  have e2 : pcL L o hi lo = L ++ leL o.toNat 8 ++ leL lo 8 ++ leL hi 8 := by unfold pcL; rw [if_pos e1]
  rw [e1, e2]
  obtain ⟨m, rfl⟩ : ∃ m : Nat, o = (m : Int) := ⟨o.toNat, by omega⟩
  rw [Int.toNat_natCast]
  have hm : m < 18446744073709551616 := by omega
  have ew : IntKind.u64.wrap (m : Int) = (m : Int) := by rw [IntKind.wrap_u64]; omega
  have hd : decide ((m : Int) < 0) = false := decide_eq_false h0
  have hd1 : decide (4611686018427387904 < (m : Int)) = false := decide_eq_false h1
  have HR : Hid (n + 24 ≤ 140737488355328) := hr
  have H0 : Hid (Row (w.alloc (Obj.cells #[.int .i64 (m : Int), Value.int IntKind.u64 (hi : Int), Value.int IntKind.u64 (lo : Int)] 31)).drew a n cap L) := h.later ((below1 _ _).drew)
  have X0 : Hid (CBox (w.alloc (Obj.cells #[.int .i64 (m : Int), Value.int IntKind.u64 (hi : Int), Value.int IntKind.u64 (lo : Int)] 31)).drew w.heap.size m hi lo) := CBox.new w m hi lo
  clear h hr h0 h1 e1 e2
  go_enter Try.func83, Try.ntmps83
  go_upto_region 3 with fail
  go_region_held3 (fun w' => (w'.cell? ⟨w.heap.size, 0, none⟩ = some (.int .i64 (m : Int)) ∧ w'.cell? ⟨w.heap.size, 1, none⟩ = some (.int .u64 (hi : Int)) ∧ w'.cell? ⟨w.heap.size, 2, none⟩ = some (.int .u64 (lo : Int)))) (first | exact X0.out | exact X1 | exact X2) (first | (go_at_call 85; refine (lay64 _ _ _ _ m _ _ hm hown1 hb1.size (by have := HR.out; omega)).mono ?_; rintro e w2 ⟨a2, c2, rfl, hown2, hg2⟩; have X2 := X1.but hg2.but (fun hk => by have := hown1.blk _ hk; simp at this; omega)) | (go_at_call 81; refine (room_any a n cap 24 L _ H0.out HR.out).mono ?_; rintro e w1 ⟨g1, rfl, hown1, hb1⟩; have X1 := X0.out.but (S := fun _ => False) (But.of hb1) (fun h => h)))
  have x1 := X2.2.1
  have x2 := X2.2.2
  have hs2 := Nat.le_trans hb1.size hg2.but.size
  go_wp2_with (first | (go_at_call 86; refine (layWord_any _ _ _ _ hi lo _ _ hhi hlo hown2 hs2 (by have := HR.out; omega)).mono ?_; rintro e w3 ⟨a3, c3, rfl, hown3, hg3⟩))
  refine bodyPost_ret (v := .tuple #[.slice a3 (n + 8 + 16) c3, .int .i64 0]) (by simp [results, Try.results83, go_sem]) rfl ⟨a3, _, c3, rfl, hown3.mono (by simp), ?_⟩
  exact (below_call ((below1 _ _).drew) hb1).trans ((((hg2.trans hg3).below hown1 hb1.size)).mono (by simp))
end Go.Proofs.Yticgammbjcdobaa
namespace Go.Proofs.Yticgammbjcdobaa
open Go.RowKit
set_option linter.unusedVariables false
abbrev R4 := Option Addr × Nat × Nat × List Nat
def val4 (r : R4) : Value := .slice r.1 r.2.1 r.2.2.1
def cat4 : List R4 → List Nat
  | [] => []
  | r :: rs => r.2.2.2 ++ cat4 rs
theorem cat4_append (rs qs : List R4) : cat4 (rs ++ qs) = cat4 rs ++ cat4 qs := by
  induction rs with
  | nil => rfl
  | cons r rs ih => simp [cat4, ih]
theorem cat4_take (rs : List R4) (i : Nat) (h : i < rs.length) : cat4 (rs.take (i + 1)) = cat4 (rs.take i) ++ rs[i].2.2.2 := by
  rw [List.take_succ_eq_append_getElem h, cat4_append]
  simp [cat4]
theorem cat4_take_le (rs : List R4) (i : Nat) : (cat4 (rs.take i)).length ≤ (cat4 rs).length := by
  have : cat4 rs = cat4 (rs.take i) ++ cat4 (rs.drop i) := by rw [← cat4_append, List.take_append_drop]
  rw [this, List.length_append]
  omega
def SumRel (rs : List R4) (z t : Value) : Prop := ∃ i : Nat, i ≤ rs.length ∧ t = .int .i64 (i : Int) ∧ z = .int .i64 ((cat4 (rs.take i)).length : Int)
def CatRel (w : World) (rs : List R4) (o t : Value) (w' : World) : Prop := ∃ (i : Nat) (a : Option Addr) (n cap : Nat), i ≤ rs.length ∧ t = .int .i64 (i : Int) ∧ o = .slice a n cap ∧ Own w' w.heap.size a n cap (cat4 (rs.take i)) ∧ Below w.heap.size w w'
set_option maxRecDepth 100000 in
set_option maxHeartbeats 1000000 in
theorem join_any (b cap k : Nat) (rs : List R4) (w : World) (hk : k = rs.length) (hrl : rs.length < 1000) (hc : ∀ j (hj : j < rs.length), w.cell? ⟨b, j, none⟩ = some (val4 rs[j])) (hrow : ∀ r ∈ rs, Row w r.1 r.2.1 r.2.2.1 r.2.2.2) (hr : (cat4 rs).length ≤ 140737488355328) :
    Calls Try.prog 73 #[.slice (some ⟨b, 0, none⟩) k cap] w fun e w' => ∃ a' n' cap', e = .returned (.slice a' n' cap') ∧ Own w' w.heap.size a' n' cap' (cat4 rs) ∧ Below w.heap.size w w' := by
  subst hk
  have HC : Hid (∀ j (hj : j < rs.length), w.cell? ⟨b, j, none⟩ = some (val4 rs[j])) := hc
  have HRow : Hid (∀ r ∈ rs, Row w r.1 r.2.1 r.2.2.1 r.2.2.2) := hrow
  have HR : Hid ((cat4 rs).length ≤ 140737488355328) := hr
  clear hc hrow hr
  go_enter Try.func73, Try.ntmps73
  go_wp2
  go_loop [3, 11] (SumRel rs) (fun _ t => rs.length - (intOf t).toNat)
  case atStart => exact ⟨0, by omega, rfl, rfl⟩
  case round =>
    obtain ⟨i, hi, rfl, rfl⟩ := hrel
    have ei : IntKind.i64.wrap ((i : Int) + 1) = (i : Int) + 1 := by rw [IntKind.wrap_i64]; omega
    by_cases hlt : i < rs.length
    · have hd : decide ((i : Int) < (rs.length : Int)) = true := by simp; omega
      have hcell := HC.out i hlt
      obtain ⟨a1, n1, c1, L1, hri⟩ : ∃ a1 n1 c1 L1, rs[i] = (a1, n1, c1, L1) := ⟨_, _, _, _, rfl⟩
      have hR := HRow.out _ (List.getElem_mem hlt)
      have hct := cat4_take rs i hlt
      have hle := cat4_take_le rs (i + 1)
      rw [hri] at hcell hR hct
      simp only [val4] at hcell
      have hlen := hR.len
      simp only at hlen hct
      have HT : Hid ((cat4 (rs.take (i + 1))).length = (cat4 (rs.take i)).length + n1) := by unfold Hid; rw [hct, List.length_append, hlen]
      have ew : IntKind.i64.wrap (((cat4 (rs.take i)).length : Int) + (n1 : Int)) = ((cat4 (rs.take i)).length : Int) + (n1 : Int) := by
        have := HR.out
        have := HT.out
        rw [IntKind.wrap_i64]; omega
      clear hR hct hle hri
      go_wp2
      exact ⟨⟨i + 1, by omega, by simp, by rw [HT.out]; simp⟩, by simp [intOf]; omega⟩
    · obtain rfl : i = rs.length := by omega
      rename World => w
      rw [List.take_length]
      obtain ⟨z, hz⟩ : ∃ z, z = (cat4 rs).length := ⟨_, rfl⟩
      have HZ : Hid (0 + z ≤ 140737488355328) := by have := HR.out; unfold Hid; omega
      rw [← hz]
      clear hz ei
      go_wp2_with (first | (go_at_call 81; refine (room_any none 0 0 z [] _ (row_nil _) HZ.out).mono ?_; rintro e w2 ⟨g, rfl, hown, hb⟩))
      go_loopw [6, 24] (CatRel w rs) (fun _ t _ => rs.length - (intOf t).toNat)
      case atStart => exact ⟨0, _, _, _, by omega, rfl, rfl, by simpa [cat4] using hown, hb⟩
      case round =>
        clear hown hb hlt hi
        obtain ⟨i, a', n', cap', hi, rfl, rfl, hown, hB⟩ := hrel
        have ei : IntKind.i64.wrap ((i : Int) + 1) = (i : Int) + 1 := by rw [IntKind.wrap_i64]; omega
        by_cases hlt : i < rs.length
        · have hd : decide ((i : Int) < (rs.length : Int)) = true := by simp; omega
          have hcell := cell_later hB (HC.out i hlt)
          obtain ⟨a1, n1, c1, L1, hri⟩ : ∃ a1 n1 c1 L1, rs[i] = (a1, n1, c1, L1) := ⟨_, _, _, _, rfl⟩
          have hR := (HRow.out _ (List.getElem_mem hlt)).later hB
          have hct := cat4_take rs i hlt
          have hle := cat4_take_le rs (i + 1)
          rw [hri] at hcell hR hct
          simp only [val4] at hcell
          simp only at hR hct
          have hl1 := hR.len
          have hl2 := hown.len
          have hl3 : (cat4 (rs.take (i + 1))).length = (cat4 (rs.take i)).length + L1.length := by rw [hct, List.length_append]
          obtain ⟨a2, c2, w3, hrun, hown2, hg2⟩ := append_any hown hR hB.size (by have := HR.out; omega)
          rw [← hct] at hown2
          have HRUN : Hid _ := hrun
          have HB : Hid (Below w.heap.size w w3) := hB.trans (hg2.below hown hB.size)
          clear hrun hown hB hg2 hR hct hle hri hl1 hl2 hl3
          go_wp2_with (first | (at_builtin; refine wpList_append_known rfl _ _ 33 rfl _ _ rfl rfl _ w3 HRUN.out ?_))
          go_roundw
          case rel => exact ⟨i + 1, a2, _, c2, by omega, by simp, rfl, hown2, HB.out⟩
          case measure => simp [intOf]; omega
        · obtain rfl : i = rs.length := by omega
          rw [List.take_length] at hown
          go_wp2
          go_ret
          exact ⟨_, _, _, rfl, hown, hB⟩
end Go.Proofs.Yticgammbjcdobaa
