import Derived.Test.YthfmmfphnimlnaaCA
import Derived.Deep.DeepCutAuto
namespace Go.Proofs.Ythfmmfphnimlnaa
open Go.RowKit
set_option linter.unusedVariables false
def endE (R : List Nat) : Int := if 0 < R.length then 23 else 0
set_option maxRecDepth 100000 in
set_option maxHeartbeats 1000000 in
theorem end_any (g gb : Nat) (R : List Nat) (w : World) (h : Rd w g gb R) :
    Calls Try.prog 62 #[.pointer (some ⟨g, 0, none⟩)] w fun e w' => e = .returned (.int .i64 (endE R)) ∧ w' = w := by
  obtain ⟨o, cap, hl, hc, hcell⟩ := h.ex
  have hl1 := hl.1
  clear hcell
  by_cases h0 : 0 < R.length
  · have e1 : endE R = 23 := by unfold endE; rw [if_pos h0]
    rw [e1]
    have hd : decide (0 < (R.length : Int)) = true := by simp; omega
    go_enter Try.func62, Try.ntmps62
    go_wp2
    go_ret
    exact ⟨rfl, rfl⟩
  · have e1 : endE R = 0 := by unfold endE; rw [if_neg h0]
    rw [e1]
    have hd : decide (0 < (R.length : Int)) = false := decide_eq_false (by omega)
    go_enter Try.func62, Try.ntmps62
    go_wp2
    go_ret
    exact ⟨rfl, rfl⟩
theorem Rd.new {w W : World} {base b0 g n cap : Nat} {L : List Nat} (h : Own w base (some ⟨g, 0, none⟩) n cap L) (hb : b0 = w.heap.size) (t : TypeId) (hW : W = w.alloc (.cells #[.slice (some ⟨g, 0, none⟩) n cap] t)) : Rd W b0 g L := by
  subst hb hW
  obtain rfl := h.len
  have hr := h.read
  have hg : g < w.heap.size := by
    rcases h.row.2 with ⟨h, _⟩ | ⟨g', c, cur, hv, _, hh, _⟩
    · simp at h
    · simp only [Value.slice.injEq, Option.some.injEq, Addr.mk.injEq] at hv
      obtain ⟨⟨rfl, _⟩, _⟩ := hv
      exact (Array.getElem?_eq_some_iff.1 hh).1
  refine ⟨⟨0, cap, ⟨by simp [go_sem], by simp [go_sem]⟩, hr.cap_, fun i hi => ?_⟩, by omega, h.small⟩
  have := (hr.alloc (.cells #[.slice (some ⟨g, 0, none⟩) L.length cap] t)).cells _ rfl i _ (u8s_get L i hi)
  rw [addr_add] at this
  exact this
set_option maxRecDepth 100000 in
set_option maxHeartbeats 1000000 in
theorem newReader_any (a : Option Addr) (n cap : Nat) (L : List Nat) (w : World) (h : Row w a n cap L) (hr : n ≤ 140737488355328) :
    Calls Try.prog 29 #[.slice a n cap] w fun e w' => ∃ g gb, e = .returned (.pointer (some ⟨g, 0, none⟩)) ∧ Rd w' g gb L ∧ w.heap.size ≤ g ∧ w.heap.size ≤ gb ∧ Below w.heap.size w w' := by
  have HR : Hid (n + 0 ≤ 140737488355328) := hr
  clear hr
  go_enter Try.func29, Try.ntmps29
  go_wp2_with (first | (go_at_call 55; refine (room_any a n cap 0 L _ h HR.out).mono ?_; rintro e w2 ⟨g, rfl, hown, hb⟩))
  go_ret
  have hg := own_block hown.row g rfl
  exact ⟨_, g, rfl, Rd.new hown rfl 97 rfl, hb.size, hg, hb.alloc hb.size _⟩
theorem own_but {S : Nat → Prop} {w w' : World} {base : Nat} {e : TypeId} {size : Nat} {v : Value} {n : Nat} {xs : List Value} (hb : But S w w') (h : w.ownsRow base e size v n xs) (hS : ∀ k, base ≤ k → ¬ S k) : w'.ownsRow base e size v n xs := by
  refine ⟨h.1, ?_⟩
  rcases h.2 with h | ⟨g, cap, cur, hv, hg, hh, r⟩
  · exact .inl h
  · exact .inr ⟨g, cap, cur, hv, hg, by rw [hb.block g (Array.getElem?_eq_some_iff.1 hh).1 (hS g hg)]; exact hh, r⟩
theorem Own.but {S : Nat → Prop} {w w' : World} {base : Nat} {a : Option Addr} {n cap : Nat} {L : List Nat} (hb : But S w w') (h : Own w base a n cap L) (hS : ∀ k, base ≤ k → ¬ S k) : Own w' base a n cap L := ⟨own_but hb h.row hS, h.small⟩
theorem But.put {S : Nat → Prop} {a w : World} (h : But S a w) {p : Addr} (hp : a.heap.size ≤ p.block) (u : Value) : But S a (w.setCell p u) :=
  ⟨h.os, h.tape, h.output, by simpa using h.size, fun k hk hn => by rw [Below.heap_setCell _ _ _ _ (by omega)]; exact h.block k hk hn⟩
def rowE (R : List Nat) (k : Int) : Int := if k < 0 then 5 else if (R.length : Int) < k then 17 else 0
def rowN (R : List Nat) (k : Int) : Nat := if rowE R k = 0 then k.toNat else 0
set_option maxRecDepth 100000 in
set_option maxHeartbeats 1000000 in
theorem row_any (g gb : Nat) (R : List Nat) (k : Int) (w : World) (h : Rd w g gb R) (hr : R.length ≤ 140737488355328) :
    Calls Try.prog 81 #[.pointer (some ⟨g, 0, none⟩), .int .i64 k] w fun e w' => ∃ a m c, e = .returned (.tuple #[.slice a m c, .int .i64 (rowE R k)]) ∧ Own w' w.heap.size a m c (R.take (rowN R k)) ∧ Rd w' g gb (R.drop (rowN R k)) ∧ But (· = g) w w' := by
  obtain ⟨o, cap, hl, hc, hcell⟩ := h.ex
  have hl1 := hl.1
  have HC : Hid (∀ i (hi : i < R.length), w.cell? ⟨gb, o + i, none⟩ = some (.int .u8 ((R[i] : Nat) : Int))) := hcell
  have HR : Hid (R.length ≤ 140737488355328) := hr
  clear hcell hr
  by_cases h0 : k < 0
  · have e1 : rowE R k = 5 := by unfold rowE; rw [if_pos h0]
    have e2 : rowN R k = 0 := by unfold rowN; rw [e1, if_neg (by omega)]
    rw [e1, e2]
    go_enter Try.func81, Try.ntmps81
    go_wp2
    exact bodyPost_ret (v := .tuple #[.slice none 0 0, .int .i64 5]) (by simp [results, Try.results81, go_sem]) rfl ⟨none, 0, 0, rfl, Own.nil _ _, by simpa using h, But.refl _ _⟩
  by_cases h1 : (R.length : Int) < k
  · have e1 : rowE R k = 17 := by unfold rowE; rw [if_neg h0, if_pos h1]
    have e2 : rowN R k = 0 := by unfold rowN; rw [e1, if_neg (by omega)]
    rw [e1, e2]
    go_enter Try.func81, Try.ntmps81
    go_wp2
    exact bodyPost_ret (v := .tuple #[.slice none 0 0, .int .i64 17]) (by simp [results, Try.results81, go_sem]) rfl ⟨none, 0, 0, rfl, Own.nil _ _, by simpa using h, But.refl _ _⟩
  have e1 : rowE R k = 0 := by unfold rowE; rw [if_neg h0, if_neg h1]
  have e2 : rowN R k = k.toNat := by unfold rowN; rw [if_pos e1]
  rw [e1, e2]
  obtain ⟨m, rfl⟩ : ∃ m : Nat, k = (m : Int) := ⟨k.toNat, by omega⟩
  have hm : m ≤ R.length := by omega
  rw [Int.toNat_natCast]
  have HRow : Hid (Row w (some ⟨gb, o, none⟩) m cap (R.take m)) := Row.at (by simp; omega) (by omega) (fun x hx => h.small x (List.mem_of_mem_take hx)) (fun i hi => by
    have hi' : i < R.length := by simp at hi; omega
    rw [List.getElem_take]
    exact HC.out i hi')
  have hc1 : (m : Int) ≤ (cap : Int) := by omega
  clear e1 e2
  go_enter Try.func81, Try.ntmps81
  go_wp2_with (first | (go_at_call 55; refine (room_any _ _ _ 0 _ _ HRow.out (by have := HR.out; omega)).mono ?_; rintro e w1 ⟨g1, rfl, hown, hb⟩; replace h := h.later hb) | (go_at_call 94; refine (take_any g gb R m _ h hm).mono ?_; rintro e w2 ⟨rfl, hrd, hbut⟩))
  refine bodyPost_ret (v := .tuple #[.slice (some ⟨g1, 0, none⟩) m (m + 0), .int .i64 0]) (by simp [results, Try.results81, go_sem]) rfl ⟨_, _, _, rfl, ?_, hrd, (But.of hb).trans hbut⟩
  have hlt : g < w.heap.size := World.block_lt_of_cell? _ _ hl1
  exact hown.but hbut (fun j hj e => by omega)
def loV (L : List Nat) : Nat := valL (L.take 8)
def hiV (L : List Nat) : Nat := valL ((L.drop 8).take 8)
set_option maxRecDepth 100000 in
set_option maxHeartbeats 1000000 in
theorem wordOf_any (gb o n cap : Nat) (L : List Nat) (w : World) (h : Row w (some ⟨gb, o, none⟩) n cap L) (hl : 16 ≤ n) :
    Calls Try.prog 104 #[.slice (some ⟨gb, o, none⟩) n cap] w fun e w' => e = .returned (.agg #[.int .u64 ((hiV L : Nat) : Int), .int .u64 ((loV L : Nat) : Int)]) ∧ Below w.heap.size w w' := by
  obtain rfl := h.len
  have hcap := h.cap_
  have e1 : getV L 8 = loV L := (get_full (by omega)).1
  have e2 : getE L 8 = 0 := (get_full (by omega)).2
  have e3 : getV (L.drop 8) 8 = hiV L := (get_full (by simp; omega)).1
  have e4 : getE (L.drop 8) 8 = 0 := (get_full (by simp; omega)).2
  have hl8 : (8 : Int) ≤ (L.length : Int) := by omega
  have hc8 : (L.length : Int) ≤ (cap : Int) := by omega
  have hne : ¬ cap = 8 := by omega
  have hnb : (cap == 8) = false := by simpa using hne
  have HD : Hid (Row w (some ⟨gb, o + 8, none⟩) (L.length - 8) (cap - 8) (L.drop 8)) := by
    obtain ⟨b, o', he, hc⟩ := h.plain (by omega)
    simp only [Option.some.injEq, Addr.mk.injEq] at he
    obtain ⟨rfl, rfl, -⟩ := he
    refine Row.at (by simp) (by omega) (fun x hx => h.small x (List.mem_of_mem_drop hx)) (fun i hi => ?_)
    rw [drop_get, Nat.add_assoc]
    exact hc _ _
  have HH : Hid (Row w (some ⟨gb, o, none⟩) L.length cap L) := h
  have HB : Hid (∀ o, Below w.heap.size w (w.alloc o)) := fun o => below1 _ _
  clear h
  go_enter Try.func104, Try.ntmps104
  go_upto_region 2 with (first | (go_at_call 103; refine (get64 _ _ _ L _ (HH.out.alloc _)).mono ?_; rintro e w1 ⟨rfl, rfl⟩; rw [e1, e2]))
  go_wp2_with (first | (go_at_call 103; refine (get64 _ _ _ (L.drop 8) _ (HD.out.alloc _)).mono ?_; rintro e w1 ⟨rfl, rfl⟩; rw [e3, e4]))
  exact bodyPost_ret (v := .agg #[.int .u64 ((hiV L : Nat) : Int), .int .u64 ((loV L : Nat) : Int)]) (by simp [results, Try.results104, go_sem]) rfl ⟨rfl, HB.out _⟩
def wordE (R : List Nat) : Int := if R.length < 16 then 17 else 0
def wordN (R : List Nat) : Nat := if R.length < 16 then 0 else 16
def wordHi (R : List Nat) : Nat := if R.length < 16 then 0 else hiV R
def wordLo (R : List Nat) : Nat := if R.length < 16 then 0 else loV R
def capE (R : List Nat) : Int := if R.length < 24 then 17 else if 4611686018427387904 < loV R then 5 else 0
def capN (R : List Nat) : Nat := if capE R = 0 then 24 else 0
def capObj (R : List Nat) : Nat := if capE R = 0 then loV R else 0
def capHi (R : List Nat) : Nat := if capE R = 0 then hiV (R.drop 8) else 0
def capLo (R : List Nat) : Nat := if capE R = 0 then loV (R.drop 8) else 0
theorem cap_bad {R : List Nat} (h : capE R ≠ 0) : capN R = 0 ∧ capObj R = 0 ∧ capHi R = 0 ∧ capLo R = 0 := by
  unfold capN capObj capHi capLo
  rw [if_neg h, if_neg h, if_neg h, if_neg h]
  exact ⟨rfl, rfl, rfl, rfl⟩
theorem cap_ok {R : List Nat} (h : capE R = 0) : capN R = 24 ∧ capObj R = loV R ∧ capHi R = hiV (R.drop 8) ∧ capLo R = loV (R.drop 8) := by
  unfold capN capObj capHi capLo
  rw [if_pos h, if_pos h, if_pos h, if_pos h]
  exact ⟨rfl, rfl, rfl, rfl⟩
set_option maxRecDepth 100000 in
set_option maxHeartbeats 1000000 in
theorem cap_any (g gb : Nat) (R : List Nat) (w : World) (h : Rd w g gb R) :
    Calls Try.prog 96 #[.pointer (some ⟨g, 0, none⟩)] w fun e w' => e = .returned (.tuple #[.agg #[.int .i64 ((capObj R : Nat) : Int), .int .u64 ((capHi R : Nat) : Int), .int .u64 ((capLo R : Nat) : Int)], .int .i64 (capE R)]) ∧ Rd w' g gb (R.drop (capN R)) ∧ But (· = g) w w' := by
  obtain ⟨o, cap, hl, hc, hcell⟩ := h.ex
  have hl0 := hl.alloc (Obj.cells #[.int .i64 0, .int .u64 0, .int .u64 0] 65)
  have hl1 := hl0.1
  have HRow : Hid (Row w (some ⟨gb, o, none⟩) R.length cap R) := h.row hc hcell
  have hgl : g < w.heap.size := World.block_lt_of_cell? _ _ hl.1
  have hgb : 0 < R.length → gb < w.heap.size := fun h0 => World.block_lt_of_cell? _ _ (hcell 0 h0)
  have HD : Hid (8 ≤ R.length → Row w (some ⟨gb, o + 8, none⟩) (R.length - 8) (cap - 8) (R.drop 8)) := fun h8 => by
    refine Row.at (by simp) (by omega) (fun x hx => h.small x (List.mem_of_mem_drop hx)) (fun i hi => ?_)
    rw [drop_get, Nat.add_assoc]
    exact hcell _ _
  clear hcell
  by_cases h24 : R.length < 24
  · have e1 : capE R = 17 := by unfold capE; rw [if_pos h24]
    obtain ⟨e2, e3, e4, e5⟩ := cap_bad (R := R) (by omega)
    rw [e1, e2, e3, e4, e5]
    have hd : decide ((R.length : Int) < 24) = true := by simp; omega
    go_enter Try.func96, Try.ntmps96
    go_wp2
    refine bodyPost_ret (v := .tuple #[.agg #[.int .i64 0, .int .u64 0, .int .u64 0], .int .i64 17]) (by simp [results, Try.results96, go_sem]) rfl ⟨rfl, ?_, But.of (below1 _ _)⟩
    rw [List.drop_zero]
    exact h.later (below1 _ _)
  have hd : decide ((R.length : Int) < 24) = false := decide_eq_false (by omega)
  have g1 : getV R 8 = loV R := (get_full (by omega)).1
  have g2 : getE R 8 = 0 := (get_full (by omega)).2
  by_cases hbig : 4611686018427387904 < loV R
  · have e1 : capE R = 5 := by unfold capE; rw [if_neg h24, if_pos hbig]
    obtain ⟨e2, e3, e4, e5⟩ := cap_bad (R := R) (by omega)
    rw [e1, e2, e3, e4, e5]
    have hd2 : decide (4611686018427387904 < ((loV R : Nat) : Int)) = true := decide_eq_true (by omega)
    go_enter Try.func96, Try.ntmps96
    go_wp2_with (first | (go_at_call 103; refine (get64 _ _ _ R _ (HRow.out.alloc _)).mono ?_; rintro e w1 ⟨rfl, rfl⟩; rw [g1, g2]))
    refine bodyPost_ret (v := .tuple #[.agg #[.int .i64 0, .int .u64 0, .int .u64 0], .int .i64 5]) (by simp [results, Try.results96, go_sem]) rfl ⟨rfl, ?_, But.of (below1 _ _)⟩
    rw [List.drop_zero]
    exact h.later (below1 _ _)
  have e1 : capE R = 0 := by unfold capE; rw [if_neg h24, if_neg hbig]
  obtain ⟨e2, e3, e4, e5⟩ := cap_ok e1
  rw [e1, e2, e3, e4, e5]
  have hd2 : decide (4611686018427387904 < ((loV R : Nat) : Int)) = false := decide_eq_false (by omega)
  have ewv : IntKind.i64.wrap ((loV R : Nat) : Int) = ((loV R : Nat) : Int) := by rw [IntKind.wrap_i64]; omega
  have hl8 : (8 : Int) ≤ (R.length : Int) := by omega
  have hc8 : (R.length : Int) ≤ (cap : Int) := by omega
  have hnb : (cap == 8) = false := by simp; omega
  have hne : ¬ cap = 8 := by omega
  have A0 : Lies (w.alloc (Obj.cells #[.int .i64 0, .int .u64 0, .int .u64 0] 65)) ⟨w.heap.size, 0, none⟩ (.int .i64 0) := ⟨by simp [go_sem], by simp [go_sem]⟩
  have A1 : Lies (w.alloc (Obj.cells #[.int .i64 0, .int .u64 0, .int .u64 0] 65)) ⟨w.heap.size, 1, none⟩ (.int .u64 0) := ⟨by simp [go_sem], by simp [go_sem]⟩
  have A2 : Lies (w.alloc (Obj.cells #[.int .i64 0, .int .u64 0, .int .u64 0] 65)) ⟨w.heap.size, 2, none⟩ (.int .u64 0) := ⟨by simp [go_sem], by simp [go_sem]⟩
  have HD2 : Hid (Row w (some ⟨gb, o + 8, none⟩) (R.length - 8) (cap - 8) (R.drop 8)) := HD.out (by omega)
  have h16 : 16 ≤ R.length - 8 := by omega
  have h24' : 24 ≤ R.length := by omega
  clear HD h24 hbig
  go_enter Try.func96, Try.ntmps96
  go_upto_region 6 with (first | (go_at_call 103; refine (get64 _ _ _ R _ (HRow.out.alloc _)).mono ?_; rintro e w1 ⟨rfl, rfl⟩; rw [g1, g2]))
  go_upto_region 7 with (first | (go_at_call 104; refine (wordOf_any _ _ _ _ (R.drop 8) _ (HD2.out.alloc _) (by omega)).mono ?_; rintro e w1 ⟨rfl, hb⟩; replace h := (h.alloc _).later hb; replace A0 := A0.later hb; replace A1 := A1.later hb; replace A2 := A2.later hb; have hb0 := below_call (below1 _ _) hb))
  have Y0 : Lies (w1.alloc (Obj.cells #[.int .i64 ((loV R : Nat) : Int), .int .u64 ((hiV (R.drop 8) : Nat) : Int), .int .u64 ((loV (R.drop 8) : Nat) : Int)] 65)) ⟨w1.heap.size, 0, none⟩ (.int .i64 ((loV R : Nat) : Int)) := ⟨by simp [go_sem], by simp [go_sem]⟩
  have Y1 : Lies (w1.alloc (Obj.cells #[.int .i64 ((loV R : Nat) : Int), .int .u64 ((hiV (R.drop 8) : Nat) : Int), .int .u64 ((loV (R.drop 8) : Nat) : Int)] 65)) ⟨w1.heap.size, 1, none⟩ (.int .u64 ((hiV (R.drop 8) : Nat) : Int)) := ⟨by simp [go_sem], by simp [go_sem]⟩
  have Y2 : Lies (w1.alloc (Obj.cells #[.int .i64 ((loV R : Nat) : Int), .int .u64 ((hiV (R.drop 8) : Nat) : Int), .int .u64 ((loV (R.drop 8) : Nat) : Int)] 65)) ⟨w1.heap.size, 2, none⟩ (.int .u64 ((loV (R.drop 8) : Nat) : Int)) := ⟨by simp [go_sem], by simp [go_sem]⟩
  have hw1 := hb0.size
  go_upto_region 8 with (first | (go_at_call 94; refine (take_any g gb R 24 _ (h.alloc _) h24').mono ?_; rintro e w2 ⟨rfl, hrd, hbut⟩))
  replace A0 := (A0.alloc _).but hbut (by simp; omega)
  replace A1 := (A1.alloc _).but hbut (by simp; omega)
  replace A2 := (A2.alloc _).but hbut (by simp; omega)
  replace Y0 := Y0.but hbut (by simp; omega)
  replace Y1 := Y1.but hbut (by simp; omega)
  replace Y2 := Y2.but hbut (by simp; omega)
  have a0 := A0.1
  have a1 := A0.2
  have a2 := A1.1
  have a3 := A1.2
  have a4 := A2.1
  have a5 := A2.2
  have y0 := Y0.1
  have y1 := Y1.1
  have y2 := Y2.1
  clear hl1
  go_wp2
  refine bodyPost_ret (v := .tuple #[.agg #[.int .i64 ((loV R : Nat) : Int), .int .u64 ((hiV (R.drop 8) : Nat) : Int), .int .u64 ((loV (R.drop 8) : Nat) : Int)], .int .i64 0]) (by simp [results, Try.results96, go_sem, a0, a2, a4]) rfl ⟨rfl, ?_, ?_⟩
  · have hgb' := hgb (by omega)
    exact hrd.but (S := (· = w.heap.size)) ((((But.refl (· = w.heap.size) w2).setCell (p := ⟨w.heap.size, 0, none⟩) rfl _).setCell (p := ⟨w.heap.size, 1, none⟩) rfl _).setCell (p := ⟨w.heap.size, 2, none⟩) rfl _) (by omega) (by omega)
  · exact (((((But.of hb0).alloc _).trans hbut).put (by simp) _).put (by simp) _).put (by simp) _
end Go.Proofs.Ythfmmfphnimlnaa
namespace Go.Proofs.Ythfmmfphnimlnaa
open Go.RowKit
set_option linter.unusedVariables false
def Box (w : World) (k : Nat) (a b : Int) : Prop := w.cell? ⟨k, 0, none⟩ = some (.int .u64 a) ∧ w.cell? ⟨k, 1, none⟩ = some (.int .u64 b)
theorem Box.new (w : World) (a b : Int) : Box (w.alloc (.cells #[.int .u64 a, .int .u64 b] 63)) w.heap.size a b := ⟨by simp [go_sem], by simp [go_sem]⟩
theorem Box.but {S : Nat → Prop} {w w' : World} {k : Nat} {a b : Int} (hb : But S w w') (h : Box w k a b) (hn : ¬ S k) : Box w' k a b := by
  have hk := hb.block k (World.block_lt_of_cell? _ _ h.1) hn
  exact ⟨by rw [World.cell?_of_block (w := w) hk]; exact h.1, by rw [World.cell?_of_block (w := w) hk]; exact h.2⟩
theorem Own.drew {w : World} {base : Nat} {a : Option Addr} {n cap : Nat} {L : List Nat} (h : Own w base a n cap L) : Own w.drew base a n cap L := h.later (Below.refl _ _).drew
theorem Own.lt {w : World} {base : Nat} {a : Option Addr} {n cap : Nat} {L : List Nat} (h : Own w base a n cap L) : ∀ k, Blk a k → k < w.heap.size := by
  intro k ⟨x, hx, hk⟩
  subst hx
  rcases h.row.2 with ⟨h, _⟩ | ⟨g', c, cur, hv, _, hh, _⟩
  · simp at h
  · simp only [Value.slice.injEq, Option.some.injEq] at hv
    obtain ⟨rfl, _⟩ := hv
    subst hk
    exact (Array.getElem?_eq_some_iff.1 hh).1
theorem grown_apart {a a' : Option Addr} {w w' : World} {k : Nat} (g : Gr a a' w w') (hk : k < w.heap.size) (hn : ¬ Blk a k) : ¬ Blk a' k := fun h => by
  rcases g.on k h with h1 | h1
  · exact hn h1
  · omega
set_option maxRecDepth 100000 in
set_option maxHeartbeats 1000000 in
theorem layWord_any (a : Option Addr) (n cap : Nat) (L : List Nat) (hi lo : Nat) (w : World) (base : Nat) (hhi : hi < 18446744073709551616) (hlo : lo < 18446744073709551616) (h : Own w base a n cap L) (hb : base ≤ w.heap.size) (hr : n + 16 ≤ 140737488355328) :
    Calls Try.prog 97 #[.slice a n cap, .agg #[.int .u64 (hi : Int), .int .u64 (lo : Int)]] w fun e w' => ∃ a' cap', e = .returned (.slice a' (n + 16) cap') ∧ Own w' base a' (n + 16) cap' (L ++ leL lo 8 ++ leL hi 8) ∧ Gr a a' w w' := by
  have HR : Hid (n + 16 ≤ 140737488355328) := hr
  have hnb : ¬ Blk a w.heap.size := fun hk => by have := h.lt _ hk; omega
  have H0 : Hid (Own (w.alloc (Obj.cells #[Value.int IntKind.u64 (hi : Int), Value.int IntKind.u64 (lo : Int)] 63)).drew base a n cap L) := (h.alloc _).drew
  have X0 : Hid (Box (w.alloc (Obj.cells #[Value.int IntKind.u64 (hi : Int), Value.int IntKind.u64 (lo : Int)] 63)).drew w.heap.size hi lo) := Box.new w hi lo
  clear h hr
  go_enter Try.func97, Try.ntmps97
  go_wp2
  go_region_held3 (fun w' => (w'.cell? ⟨w.heap.size, 0, none⟩ = some (.int .u64 (hi : Int)) ∧ w'.cell? ⟨w.heap.size, 1, none⟩ = some (.int .u64 (lo : Int)))) (first | exact X0.out | exact X1 | exact X2) (first | (go_at_call 66; refine (lay64 _ _ _ _ hi _ base hhi hown1 (by simp at hs1; omega) (by have := HR.out; omega)).mono ?_; rintro e w2 ⟨a2, c2, rfl, hown2, hg2⟩; have X2 := X1.but hg2.but (grown_apart hg1 (by simp) hnb)) | (go_at_call 66; refine (lay64 a n cap L lo _ base hlo H0.out (by simp; omega) (by have := HR.out; omega)).mono ?_; rintro e w1 ⟨a1, c1, rfl, hown1, hg1⟩; have X1 := X0.out.but hg1.but hnb; have hs1 := hg1.but.size))
  go_wp2
  go_ret
  refine ⟨a2, c2, rfl, hown2, ?_⟩
  exact (hg1.trans hg2).pre (((below1 _ _)).drew)
def CBox (w : World) (k : Nat) (o a b : Int) : Prop := w.cell? ⟨k, 0, none⟩ = some (.int .i64 o) ∧ w.cell? ⟨k, 1, none⟩ = some (.int .u64 a) ∧ w.cell? ⟨k, 2, none⟩ = some (.int .u64 b)
theorem CBox.new (w : World) (o a b : Int) : CBox (w.alloc (.cells #[.int .i64 o, .int .u64 a, .int .u64 b] 65)) w.heap.size o a b := ⟨by simp [go_sem], by simp [go_sem], by simp [go_sem]⟩
theorem CBox.but {S : Nat → Prop} {w w' : World} {k : Nat} {o a b : Int} (hb : But S w w') (h : CBox w k o a b) (hn : ¬ S k) : CBox w' k o a b := by
  have hk := hb.block k (World.block_lt_of_cell? _ _ h.1) hn
  exact ⟨by rw [World.cell?_of_block (w := w) hk]; exact h.1, by rw [World.cell?_of_block (w := w) hk]; exact h.2.1, by rw [World.cell?_of_block (w := w) hk]; exact h.2.2⟩
theorem CBox.later {w w' : World} {k : Nat} {o a b : Int} (hb : Below w.heap.size w w') (h : CBox w k o a b) : CBox w' k o a b := h.but (S := fun _ => False) (But.of hb) (fun h => h)
theorem Box.later {w w' : World} {k : Nat} {a b : Int} (hb : Below w.heap.size w w') (h : Box w k a b) : Box w' k a b := h.but (S := fun _ => False) (But.of hb) (fun h => h)
def pcE (o : Int) : Int := if o < 0 ∨ 4611686018427387904 < o then 5 else 0
def pcL (L : List Nat) (o : Int) (hi lo : Nat) : List Nat := if pcE o = 0 then L ++ leL o.toNat 8 ++ leL lo 8 ++ leL hi 8 else []
set_option maxRecDepth 100000 in
set_option maxHeartbeats 1000000 in
theorem putCap_any (a : Option Addr) (n cap : Nat) (L : List Nat) (o : Int) (hi lo : Nat) (w : World) (hhi : hi < 18446744073709551616) (hlo : lo < 18446744073709551616) (h : Row w a n cap L) (hr : n + 24 ≤ 140737488355328) :
    Calls Try.prog 89 #[.slice a n cap, .agg #[.int .i64 o, .int .u64 (hi : Int), .int .u64 (lo : Int)]] w fun e w' => ∃ a' n' cap', e = .returned (.tuple #[.slice a' n' cap', .int .i64 (pcE o)]) ∧ Own w' w.heap.size a' n' cap' (pcL L o hi lo) ∧ Below w.heap.size w w' := by
  by_cases h0 : o < 0
  · have e1 : pcE o = 5 := by unfold pcE; rw [if_pos (.inl h0)]
    have e2 : pcL L o hi lo = [] := by unfold pcL; rw [e1, if_neg (by omega)]
    rw [e1, e2]
    have hd : decide (o < 0) = true := decide_eq_true h0
    go_enter Try.func89, Try.ntmps89
    go_wp2
    exact bodyPost_ret (v := .tuple #[.slice none 0 0, .int .i64 5]) (by simp [results, Try.results89, go_sem]) rfl ⟨none, 0, 0, rfl, Own.nil _ _, below1 _ _⟩
  by_cases h1 : 4611686018427387904 < o
  · have e1 : pcE o = 5 := by unfold pcE; rw [if_pos (.inr h1)]
    have e2 : pcL L o hi lo = [] := by unfold pcL; rw [e1, if_neg (by omega)]
    rw [e1, e2]
    have hd : decide (o < 0) = false := decide_eq_false h0
    have hd1 : decide (4611686018427387904 < o) = true := decide_eq_true h1
    go_enter Try.func89, Try.ntmps89
    go_wp2
    exact bodyPost_ret (v := .tuple #[.slice none 0 0, .int .i64 5]) (by simp [results, Try.results89, go_sem]) rfl ⟨none, 0, 0, rfl, Own.nil _ _, below1 _ _⟩
  have e1 : pcE o = 0 := by unfold pcE; rw [if_neg (by omega)]
  have e2 : pcL L o hi lo = L ++ leL o.toNat 8 ++ leL lo 8 ++ leL hi 8 := by unfold pcL; rw [if_pos e1]
  rw [e1, e2]
  obtain ⟨m, rfl⟩ : ∃ m : Nat, o = (m : Int) := ⟨o.toNat, by omega⟩
  rw [Int.toNat_natCast]
  have hm : m < 18446744073709551616 := by omega
  have ew : IntKind.u64.wrap (m : Int) = (m : Int) := by rw [IntKind.wrap_u64]; omega
  have hd : decide ((m : Int) < 0) = false := decide_eq_false h0
  have hd1 : decide (4611686018427387904 < (m : Int)) = false := decide_eq_false h1
  have HR : Hid (n + 24 ≤ 140737488355328) := hr
  have H0 : Hid (Row (w.alloc (Obj.cells #[.int .i64 (m : Int), Value.int IntKind.u64 (hi : Int), Value.int IntKind.u64 (lo : Int)] 65)).drew a n cap L) := h.later ((below1 _ _).drew)
  have X0 : Hid (CBox (w.alloc (Obj.cells #[.int .i64 (m : Int), Value.int IntKind.u64 (hi : Int), Value.int IntKind.u64 (lo : Int)] 65)).drew w.heap.size m hi lo) := CBox.new w m hi lo
  clear h hr h0 h1 e1 e2
  go_enter Try.func89, Try.ntmps89
  go_upto_region 3 with fail
  go_region_held3 (fun w' => (w'.cell? ⟨w.heap.size, 0, none⟩ = some (.int .i64 (m : Int)) ∧ w'.cell? ⟨w.heap.size, 1, none⟩ = some (.int .u64 (hi : Int)) ∧ w'.cell? ⟨w.heap.size, 2, none⟩ = some (.int .u64 (lo : Int)))) (first | exact X0.out | exact X1 | exact X2) (first | (go_at_call 66; refine (lay64 _ _ _ _ m _ _ hm hown1 hb1.size (by have := HR.out; omega)).mono ?_; rintro e w2 ⟨a2, c2, rfl, hown2, hg2⟩; have X2 := X1.but hg2.but (fun hk => by have := hown1.blk _ hk; simp at this; omega)) | (go_at_call 55; refine (room_any a n cap 24 L _ H0.out HR.out).mono ?_; rintro e w1 ⟨g1, rfl, hown1, hb1⟩; have X1 := X0.out.but (S := fun _ => False) (But.of hb1) (fun h => h)))
  have x1 := X2.2.1
  have x2 := X2.2.2
  have hs2 := Nat.le_trans hb1.size hg2.but.size
  go_wp2_with (first | (go_at_call 97; refine (layWord_any _ _ _ _ hi lo _ _ hhi hlo hown2 hs2 (by have := HR.out; omega)).mono ?_; rintro e w3 ⟨a3, c3, rfl, hown3, hg3⟩))
  refine bodyPost_ret (v := .tuple #[.slice a3 (n + 8 + 16) c3, .int .i64 0]) (by simp [results, Try.results89, go_sem]) rfl ⟨a3, _, c3, rfl, hown3.mono (by simp), ?_⟩
  exact (below_call ((below1 _ _).drew) hb1).trans ((((hg2.trans hg3).below hown1 hb1.size)).mono (by simp))
end Go.Proofs.Ythfmmfphnimlnaa
namespace Go.Proofs.Ythfmmfphnimlnaa
open Go.RowKit
set_option linter.unusedVariables false
def strB (l : List Nat) : ByteArray := ⟨(l.map UInt8.ofNat).toArray⟩
theorem strB_inj {L M : List Nat} (hL : ∀ x ∈ L, x < 256) (hM : ∀ x ∈ M, x < 256) (h : strB L = strB M) : L = M := by
  unfold strB at h
  have h1 : L.map UInt8.ofNat = M.map UInt8.ofNat := by simpa using h
  have key : ∀ (K : List Nat), (∀ x ∈ K, x < 256) → (K.map UInt8.ofNat).map UInt8.toNat = K := by
    intro K hK
    rw [List.map_map]
    conv => rhs; rw [← List.map_id K]
    apply List.map_congr_left
    intro x hx
    have := hK x hx
    simp [UInt8.toNat_ofNat']
    omega
  rw [← key L hL, ← key M hM, h1]
theorem conv_none (W : World) : (convert 30 9 (.slice none 0 0)).run Try.prog W = .ok (.string (strB [])) W := by
  rw [run_convert_bytes_string W 30 9 5 none 0 0 Try.underlying30 Try.underlying5 Try.underlying9]
  rfl
theorem Row.conv {w : World} {a : Option Addr} {n cap : Nat} {L : List Nat} (h : Row w a n cap L) : (convert 30 9 (.slice a n cap)).run Try.prog w = .ok (.string (strB L)) w := by
  cases a with
  | none =>
    obtain ⟨rfl, rfl⟩ := h.none_ rfl
    have hL : L = [] := List.eq_nil_of_length_eq_zero h.len
    subst hL
    exact conv_none w
  | some x =>
    have hl : (L.map UInt8.ofNat).length = n := by simp [h.len]
    have := run_convert_bytes_back (P := Try.prog) w 30 9 5 x cap (L.map UInt8.ofNat) Try.underlying30 Try.underlying5 Try.underlying9 (fun j hj => by
      have hj' : j < L.length := by simpa using hj
      rw [h.cells x rfl j _ (u8s_get L j hj')]
      have := h.small _ (List.getElem_mem hj')
      simp [UInt8.toNat_ofNat']
      omega)
    rw [hl] at this
    exact this
abbrev R4 := Option Addr × Nat × Nat × List Nat
def val4 (r : R4) : Value := .slice r.1 r.2.1 r.2.2.1
def cat4 : List R4 → List Nat
  | [] => []
  | r :: rs => r.2.2.2 ++ cat4 rs
theorem cat4_append (rs qs : List R4) : cat4 (rs ++ qs) = cat4 rs ++ cat4 qs := by
  induction rs with
  | nil => rfl
  | cons r rs ih => simp [cat4, ih]
theorem cat4_take (rs : List R4) (i : Nat) (h : i < rs.length) : cat4 (rs.take (i + 1)) = cat4 (rs.take i) ++ rs[i].2.2.2 := by
  rw [List.take_succ_eq_append_getElem h, cat4_append]
  simp [cat4]
theorem cat4_take_le (rs : List R4) (i : Nat) : (cat4 (rs.take i)).length ≤ (cat4 rs).length := by
  have : cat4 rs = cat4 (rs.take i) ++ cat4 (rs.drop i) := by rw [← cat4_append, List.take_append_drop]
  rw [this, List.length_append]
  omega
def SumRel (rs : List R4) (z t : Value) : Prop := ∃ i : Nat, i ≤ rs.length ∧ t = .int .i64 (i : Int) ∧ z = .int .i64 ((cat4 (rs.take i)).length : Int)
def CatRel (w : World) (rs : List R4) (o t : Value) (w' : World) : Prop := ∃ (i : Nat) (a : Option Addr) (n cap : Nat), i ≤ rs.length ∧ t = .int .i64 (i : Int) ∧ o = .slice a n cap ∧ Own w' w.heap.size a n cap (cat4 (rs.take i)) ∧ Below w.heap.size w w'
set_option maxRecDepth 100000 in
set_option maxHeartbeats 1000000 in
theorem join_any (b cap k : Nat) (rs : List R4) (w : World) (hk : k = rs.length) (hrl : rs.length < 100000) (hc : ∀ j (hj : j < rs.length), w.cell? ⟨b, j, none⟩ = some (val4 rs[j])) (hrow : ∀ r ∈ rs, Row w r.1 r.2.1 r.2.2.1 r.2.2.2) (hr : (cat4 rs).length ≤ 140737488355328) :
    Calls Try.prog 38 #[.slice (some ⟨b, 0, none⟩) k cap] w fun e w' => ∃ a' n' cap', e = .returned (.slice a' n' cap') ∧ Own w' w.heap.size a' n' cap' (cat4 rs) ∧ Below w.heap.size w w' := by
  subst hk
  have HC : Hid (∀ j (hj : j < rs.length), w.cell? ⟨b, j, none⟩ = some (val4 rs[j])) := hc
  have HRow : Hid (∀ r ∈ rs, Row w r.1 r.2.1 r.2.2.1 r.2.2.2) := hrow
  have HR : Hid ((cat4 rs).length ≤ 140737488355328) := hr
  clear hc hrow hr
  go_enter Try.func38, Try.ntmps38
  go_wp2
  go_loop [3, 11] (SumRel rs) (fun _ t => rs.length - (intOf t).toNat)
  case atStart => exact ⟨0, by omega, rfl, rfl⟩
  case round =>
    obtain ⟨i, hi, rfl, rfl⟩ := hrel
    have ei : IntKind.i64.wrap ((i : Int) + 1) = (i : Int) + 1 := by rw [IntKind.wrap_i64]; omega
    by_cases hlt : i < rs.length
    · have hd : decide ((i : Int) < (rs.length : Int)) = true := by simp; omega
      have hcell := HC.out i hlt
      obtain ⟨a1, n1, c1, L1, hri⟩ : ∃ a1 n1 c1 L1, rs[i] = (a1, n1, c1, L1) := ⟨_, _, _, _, rfl⟩
      have hR := HRow.out _ (List.getElem_mem hlt)
      have hct := cat4_take rs i hlt
      have hle := cat4_take_le rs (i + 1)
      rw [hri] at hcell hR hct
      simp only [val4] at hcell
      have hlen := hR.len
      simp only at hlen hct
      have HT : Hid ((cat4 (rs.take (i + 1))).length = (cat4 (rs.take i)).length + n1) := by unfold Hid; rw [hct, List.length_append, hlen]
      have ew : IntKind.i64.wrap (((cat4 (rs.take i)).length : Int) + (n1 : Int)) = ((cat4 (rs.take i)).length : Int) + (n1 : Int) := by
        have := HR.out
        have := HT.out
        rw [IntKind.wrap_i64]; omega
      clear hR hct hle hri
      go_wp2
      exact ⟨⟨i + 1, by omega, by simp, by rw [HT.out]; simp⟩, by simp [intOf]; omega⟩
    · obtain rfl : i = rs.length := by omega
      rename World => w
      rw [List.take_length]
      obtain ⟨z, hz⟩ : ∃ z, z = (cat4 rs).length := ⟨_, rfl⟩
      have HZ : Hid (0 + z ≤ 140737488355328) := by have := HR.out; unfold Hid; omega
      rw [← hz]
      clear hz ei
      go_wp2_with (first | (go_at_call 55; refine (room_any none 0 0 z [] _ (row_nil _) HZ.out).mono ?_; rintro e w2 ⟨g, rfl, hown, hb⟩))
      go_loopw [6, 24] (CatRel w rs) (fun _ t _ => rs.length - (intOf t).toNat)
      case atStart => exact ⟨0, _, _, _, by omega, rfl, rfl, by simpa [cat4] using hown, hb⟩
      case round =>
        clear hown hb hlt hi
        obtain ⟨i, a', n', cap', hi, rfl, rfl, hown, hB⟩ := hrel
        have ei : IntKind.i64.wrap ((i : Int) + 1) = (i : Int) + 1 := by rw [IntKind.wrap_i64]; omega
        by_cases hlt : i < rs.length
        · have hd : decide ((i : Int) < (rs.length : Int)) = true := by simp; omega
          have hcell := cell_later hB (HC.out i hlt)
          obtain ⟨a1, n1, c1, L1, hri⟩ : ∃ a1 n1 c1 L1, rs[i] = (a1, n1, c1, L1) := ⟨_, _, _, _, rfl⟩
          have hR := (HRow.out _ (List.getElem_mem hlt)).later hB
          have hct := cat4_take rs i hlt
          have hle := cat4_take_le rs (i + 1)
          rw [hri] at hcell hR hct
          simp only [val4] at hcell
          simp only at hR hct
          have hl1 := hR.len
          have hl2 := hown.len
          have hl3 : (cat4 (rs.take (i + 1))).length = (cat4 (rs.take i)).length + L1.length := by rw [hct, List.length_append]
          obtain ⟨a2, c2, w3, hrun, hown2, hg2⟩ := append_any hown hR hB.size (by have := HR.out; omega)
          rw [← hct] at hown2
          have HRUN : Hid _ := hrun
          have HB : Hid (Below w.heap.size w w3) := hB.trans (hg2.below hown hB.size)
          clear hrun hown hB hg2 hR hct hle hri hl1 hl2 hl3
          go_wp2_with (first | (at_builtin; refine wpList_append_known rfl _ _ 30 rfl _ _ rfl rfl _ w3 HRUN.out ?_))
          go_roundw
          case rel => exact ⟨i + 1, a2, _, c2, by omega, by simp, rfl, hown2, HB.out⟩
          case measure => simp [intOf]; omega
        · obtain rfl : i = rs.length := by omega
          rw [List.take_length] at hown
          go_wp2
          go_ret
          exact ⟨_, _, _, rfl, hown, hB⟩
set_option maxRecDepth 100000 in
set_option maxHeartbeats 1000000 in
theorem join_nil (w : World) : Calls Try.prog 38 #[.slice none 0 0] w fun e w' => ∃ a' cap', e = .returned (.slice a' 0 cap') ∧ Own w' w.heap.size a' 0 cap' [] ∧ Below w.heap.size w w' := by
  go_enter Try.func38, Try.ntmps38
  go_wp2
  go_loop [3, 11] (fun z t => z = .int .i64 0 ∧ t = .int .i64 0) (fun _ t => 0)
  case atStart => exact ⟨rfl, rfl⟩
  case round =>
    obtain ⟨rfl, rfl⟩ := hrel
    rename World => w
    go_wp2_with (first | (go_at_call 55; refine (room_any none 0 0 0 [] _ (row_nil _) (by omega)).mono ?_; rintro e w2 ⟨g, rfl, hown, hb⟩))
    rename World => w2
    go_loop [6, 24] (fun o t => o = .slice (some ⟨g, 0, none⟩) 0 0 ∧ t = .int .i64 0) (fun _ _ => 0)
    case atStart => exact ⟨rfl, rfl⟩
    case round =>
      obtain ⟨rfl, rfl⟩ := hrel
      go_wp2
      go_ret
      exact ⟨_, _, rfl, hown, hb⟩
end Go.Proofs.Ythfmmfphnimlnaa
