import Derived.Test.YtjncgpekmilpeaaC4
import Derived.Deep.DeepCutAuto
namespace Go.Proofs.Ytjncgpekmilpeaa
open Go.RowKit
set_option linter.unusedVariables false

set_option maxRecDepth 100000 in
set_option maxHeartbeats 1000000 in
theorem left_any (g gb : Nat) (R : List Nat) (w : World) (h : Rd w g gb R) :
    Calls Try.prog 24 #[.pointer (some ⟨g, 0, none⟩)] w fun e w' => e = .returned (.int .i64 (R.length : Int)) ∧ w' = w := by
  obtain ⟨o, cap, hl, hc, hcell⟩ := h.ex
  have hl1 := hl.1
  clear hcell
  go_enter Try.func24, Try.ntmps24
  go_wp2
  go_ret
  exact ⟨rfl, rfl⟩
def endE (R : List Nat) : Int := if 0 < R.length then 23 else 0
set_option maxRecDepth 100000 in
set_option maxHeartbeats 1000000 in
theorem end_any (g gb : Nat) (R : List Nat) (w : World) (h : Rd w g gb R) :
    Calls Try.prog 26 #[.pointer (some ⟨g, 0, none⟩)] w fun e w' => e = .returned (.int .i64 (endE R)) ∧ w' = w := by
  obtain ⟨o, cap, hl, hc, hcell⟩ := h.ex
  have hl1 := hl.1
  clear hcell
  by_cases h0 : 0 < R.length
  · have e1 : endE R = 23 := by unfold endE; rw [if_pos h0]
    rw [e1]
    have hd : decide (0 < (R.length : Int)) = true := by simp; omega
    go_enter Try.func26, Try.ntmps26
    go_wp2
    go_ret
    exact ⟨rfl, rfl⟩
  · have e1 : endE R = 0 := by unfold endE; rw [if_neg h0]
    rw [e1]
    have hd : decide (0 < (R.length : Int)) = false := decide_eq_false (by omega)
    go_enter Try.func26, Try.ntmps26
    go_wp2
    go_ret
    exact ⟨rfl, rfl⟩

/-- A list in memory of its own is a reader's bytes. -/
theorem Rd.new {w W : World} {base b0 g n cap : Nat} {L : List Nat} (h : Own w base (some ⟨g, 0, none⟩) n cap L) (hb : b0 = w.heap.size) (t : TypeId) (hW : W = w.alloc (.cells #[.slice (some ⟨g, 0, none⟩) n cap] t)) : Rd W b0 g L := by
  subst hb hW
  obtain rfl := h.len
  have hr := h.read
  have hg : g < w.heap.size := by
    rcases h.row.2 with ⟨h, _⟩ | ⟨g', c, cur, hv, _, hh, _⟩
    · simp at h
    · simp only [Value.slice.injEq, Option.some.injEq, Addr.mk.injEq] at hv
      obtain ⟨⟨rfl, _⟩, _⟩ := hv
      exact (Array.getElem?_eq_some_iff.1 hh).1
  refine ⟨⟨0, cap, ⟨by simp [go_sem], by simp [go_sem]⟩, hr.cap_, fun i hi => ?_⟩, by omega, h.small⟩
  have := (hr.alloc (.cells #[.slice (some ⟨g, 0, none⟩) L.length cap] t)).cells _ rfl i _ (u8s_get L i hi)
  rw [addr_add] at this
  exact this

set_option maxRecDepth 100000 in
set_option maxHeartbeats 1000000 in
theorem newReader_any (a : Option Addr) (n cap : Nat) (L : List Nat) (w : World) (h : Row w a n cap L) (hr : n ≤ 140737488355328) :
    Calls Try.prog 9 #[.slice a n cap] w fun e w' => ∃ g gb, e = .returned (.pointer (some ⟨g, 0, none⟩)) ∧ Rd w' g gb L ∧ w.heap.size ≤ g ∧ w.heap.size ≤ gb ∧ Below w.heap.size w w' := by
  have HR : Hid (n + 0 ≤ 140737488355328) := hr
  clear hr
  go_enter Try.func9, Try.ntmps9
  go_wp2_with (first | (go_at_call 37; refine (room_any a n cap 0 L _ h HR.out).mono ?_; rintro e w2 ⟨g, rfl, hown, hb⟩))
  go_ret
  have hg := own_block hown.row g rfl
  exact ⟨_, g, rfl, Rd.new hown rfl 82 rfl, hb.size, hg, hb.alloc hb.size _⟩

theorem own_but {S : Nat → Prop} {w w' : World} {base : Nat} {e : TypeId} {size : Nat} {v : Value} {n : Nat} {xs : List Value} (hb : But S w w') (h : w.ownsRow base e size v n xs) (hS : ∀ k, base ≤ k → ¬ S k) : w'.ownsRow base e size v n xs := by
  refine ⟨h.1, ?_⟩
  rcases h.2 with h | ⟨g, cap, cur, hv, hg, hh, r⟩
  · exact .inl h
  · exact .inr ⟨g, cap, cur, hv, hg, by rw [hb.block g (Array.getElem?_eq_some_iff.1 hh).1 (hS g hg)]; exact hh, r⟩
theorem Own.but {S : Nat → Prop} {w w' : World} {base : Nat} {a : Option Addr} {n cap : Nat} {L : List Nat} (hb : But S w w') (h : Own w base a n cap L) (hS : ∀ k, base ≤ k → ¬ S k) : Own w' base a n cap L := ⟨own_but hb h.row hS, h.small⟩
theorem But.put {S : Nat → Prop} {a w : World} (h : But S a w) {p : Addr} (hp : a.heap.size ≤ p.block) (u : Value) : But S a (w.setCell p u) :=
  ⟨h.os, h.tape, h.output, by simpa using h.size, fun k hk hn => by rw [Below.heap_setCell _ _ _ _ (by omega)]; exact h.block k hk hn⟩
def rowE (R : List Nat) (k : Int) : Int := if k < 0 then 5 else if (R.length : Int) < k then 17 else 0
def rowN (R : List Nat) (k : Int) : Nat := if rowE R k = 0 then k.toNat else 0
set_option maxRecDepth 100000 in
set_option maxHeartbeats 1000000 in
theorem row_any (g gb : Nat) (R : List Nat) (k : Int) (w : World) (h : Rd w g gb R) (hr : R.length ≤ 140737488355328) :
    Calls Try.prog 11 #[.pointer (some ⟨g, 0, none⟩), .int .i64 k] w fun e w' => ∃ a m c, e = .returned (.tuple #[.slice a m c, .int .i64 (rowE R k)]) ∧ Own w' w.heap.size a m c (R.take (rowN R k)) ∧ Rd w' g gb (R.drop (rowN R k)) ∧ But (· = g) w w' := by
  obtain ⟨o, cap, hl, hc, hcell⟩ := h.ex
  have hl1 := hl.1
  have HC : Hid (∀ i (hi : i < R.length), w.cell? ⟨gb, o + i, none⟩ = some (.int .u8 ((R[i] : Nat) : Int))) := hcell
  have HR : Hid (R.length ≤ 140737488355328) := hr
  clear hcell hr
  by_cases h0 : k < 0
  · have e1 : rowE R k = 5 := by unfold rowE; rw [if_pos h0]
    have e2 : rowN R k = 0 := by unfold rowN; rw [e1, if_neg (by omega)]
    rw [e1, e2]
    go_enter Try.func11, Try.ntmps11
    go_wp2
    exact bodyPost_ret (v := .tuple #[.slice none 0 0, .int .i64 5]) (by simp [results, Try.results11, go_sem]) rfl ⟨none, 0, 0, rfl, Own.nil _ _, by simpa using h, But.refl _ _⟩
  by_cases h1 : (R.length : Int) < k
  · have e1 : rowE R k = 17 := by unfold rowE; rw [if_neg h0, if_pos h1]
    have e2 : rowN R k = 0 := by unfold rowN; rw [e1, if_neg (by omega)]
    rw [e1, e2]
    go_enter Try.func11, Try.ntmps11
    go_wp2
    exact bodyPost_ret (v := .tuple #[.slice none 0 0, .int .i64 17]) (by simp [results, Try.results11, go_sem]) rfl ⟨none, 0, 0, rfl, Own.nil _ _, by simpa using h, But.refl _ _⟩
  have e1 : rowE R k = 0 := by unfold rowE; rw [if_neg h0, if_neg h1]
  have e2 : rowN R k = k.toNat := by unfold rowN; rw [if_pos e1]
  rw [e1, e2]
  obtain ⟨m, rfl⟩ : ∃ m : Nat, k = (m : Int) := ⟨k.toNat, by omega⟩
  have hm : m ≤ R.length := by omega
  rw [Int.toNat_natCast]
  have HRow : Hid (Row w (some ⟨gb, o, none⟩) m cap (R.take m)) := Row.at (by simp; omega) (by omega) (fun x hx => h.small x (List.mem_of_mem_take hx)) (fun i hi => by
    have hi' : i < R.length := by simp at hi; omega
    rw [List.getElem_take]
    exact HC.out i hi')
  have hc1 : (m : Int) ≤ (cap : Int) := by omega
  clear e1 e2
  go_enter Try.func11, Try.ntmps11
  go_wp2_with (first | (go_at_call 37; refine (room_any _ _ _ 0 _ _ HRow.out (by have := HR.out; omega)).mono ?_; rintro e w1 ⟨g1, rfl, hown, hb⟩; replace h := h.later hb) | (go_at_call 40; refine (take_any g gb R m _ h hm).mono ?_; rintro e w2 ⟨rfl, hrd, hbut⟩))
  refine bodyPost_ret (v := .tuple #[.slice (some ⟨g1, 0, none⟩) m (m + 0), .int .i64 0]) (by simp [results, Try.results11, go_sem]) rfl ⟨_, _, _, rfl, ?_, hrd, (But.of hb).trans hbut⟩
  have hlt : g < w.heap.size := World.block_lt_of_cell? _ _ hl1
  exact hown.but hbut (fun j hj e => by omega)

/-- The word in the first 16 bytes. -/
def loV (L : List Nat) : Nat := valL (L.take 8)
def hiV (L : List Nat) : Nat := valL ((L.drop 8).take 8)
set_option maxRecDepth 100000 in
set_option maxHeartbeats 1000000 in
theorem wordOf_any (gb o n cap : Nat) (L : List Nat) (w : World) (h : Row w (some ⟨gb, o, none⟩) n cap L) (hl : 16 ≤ n) :
    Calls Try.prog 57 #[.slice (some ⟨gb, o, none⟩) n cap] w fun e w' => e = .returned (.agg #[.int .u64 ((hiV L : Nat) : Int), .int .u64 ((loV L : Nat) : Int)]) ∧ Below w.heap.size w w' := by
  obtain rfl := h.len
  have hcap := h.cap_
  have e1 : getV L 8 = loV L := (get_full (by omega)).1
  have e2 : getE L 8 = 0 := (get_full (by omega)).2
  have e3 : getV (L.drop 8) 8 = hiV L := (get_full (by simp; omega)).1
  have e4 : getE (L.drop 8) 8 = 0 := (get_full (by simp; omega)).2
  have hl8 : (8 : Int) ≤ (L.length : Int) := by omega
  have hc8 : (L.length : Int) ≤ (cap : Int) := by omega
  have hne : ¬ cap = 8 := by omega
  have hnb : (cap == 8) = false := by simpa using hne
  have HD : Hid (Row w (some ⟨gb, o + 8, none⟩) (L.length - 8) (cap - 8) (L.drop 8)) := by
    obtain ⟨b, o', he, hc⟩ := h.plain (by omega)
    simp only [Option.some.injEq, Addr.mk.injEq] at he
    obtain ⟨rfl, rfl, -⟩ := he
    refine Row.at (by simp) (by omega) (fun x hx => h.small x (List.mem_of_mem_drop hx)) (fun i hi => ?_)
    rw [drop_get, Nat.add_assoc]
    exact hc _ _
  have HH : Hid (Row w (some ⟨gb, o, none⟩) L.length cap L) := h
  have HB : Hid (∀ o, Below w.heap.size w (w.alloc o)) := fun o => below1 _ _
  clear h
  go_enter Try.func57, Try.ntmps57
  go_upto_region 2 with (first | (go_at_call 32; refine (get64 _ _ _ L _ (HH.out.alloc _)).mono ?_; rintro e w1 ⟨rfl, rfl⟩; rw [e1, e2]))
  go_wp2_with (first | (go_at_call 32; refine (get64 _ _ _ (L.drop 8) _ (HD.out.alloc _)).mono ?_; rintro e w1 ⟨rfl, rfl⟩; rw [e3, e4]))
  exact bodyPost_ret (v := .agg #[.int .u64 ((hiV L : Nat) : Int), .int .u64 ((loV L : Nat) : Int)]) (by simp [results, Try.results57, go_sem]) rfl ⟨rfl, HB.out _⟩
def wordE (R : List Nat) : Int := if R.length < 16 then 17 else 0
def wordN (R : List Nat) : Nat := if R.length < 16 then 0 else 16
def wordHi (R : List Nat) : Nat := if R.length < 16 then 0 else hiV R
def wordLo (R : List Nat) : Nat := if R.length < 16 then 0 else loV R
set_option maxRecDepth 100000 in
set_option maxHeartbeats 1000000 in
theorem word_any (g gb : Nat) (R : List Nat) (w : World) (h : Rd w g gb R) :
    Calls Try.prog 49 #[.pointer (some ⟨g, 0, none⟩)] w fun e w' => e = .returned (.tuple #[.agg #[.int .u64 ((wordHi R : Nat) : Int), .int .u64 ((wordLo R : Nat) : Int)], .int .i64 (wordE R)]) ∧ Rd w' g gb (R.drop (wordN R)) ∧ But (· = g) w w' := by
  obtain ⟨o, cap, hl, hc, hcell⟩ := h.ex
  have hl1 := (hl.alloc (Obj.cells #[.int .u64 0, .int .u64 0] 25)).1
  have HRow : Hid (Row w (some ⟨gb, o, none⟩) R.length cap R) := h.row hc hcell
  have hgl : g < w.heap.size := World.block_lt_of_cell? _ _ hl.1
  have hgb : 0 < R.length → gb < w.heap.size := fun h0 => World.block_lt_of_cell? _ _ (hcell 0 h0)
  clear hcell
  by_cases h16 : R.length < 16
  · have e1 : wordE R = 17 := by unfold wordE; rw [if_pos h16]
    have e2 : wordN R = 0 := by unfold wordN; rw [if_pos h16]
    have e3 : wordHi R = 0 := by unfold wordHi; rw [if_pos h16]
    have e4 : wordLo R = 0 := by unfold wordLo; rw [if_pos h16]
    rw [e1, e2, e3, e4]
    have hd : decide ((R.length : Int) < 16) = true := by simp; omega
    go_enter Try.func49, Try.ntmps49
    go_wp2
    refine bodyPost_ret (v := .tuple #[.agg #[.int .u64 0, .int .u64 0], .int .i64 17]) (by simp [results, Try.results49, go_sem]) rfl ⟨rfl, ?_, But.of (below1 _ _)⟩
    rw [List.drop_zero]
    exact h.later (below1 _ _)
  · have e1 : wordE R = 0 := by unfold wordE; rw [if_neg h16]
    have e2 : wordN R = 16 := by unfold wordN; rw [if_neg h16]
    have e3 : wordHi R = hiV R := by unfold wordHi; rw [if_neg h16]
    have e4 : wordLo R = loV R := by unfold wordLo; rw [if_neg h16]
    rw [e1, e2, e3, e4]
    have hd : decide ((R.length : Int) < 16) = false := decide_eq_false (by omega)
    have A0 : Lies (w.alloc (Obj.cells #[.int .u64 0, .int .u64 0] 25)) ⟨w.heap.size, 0, none⟩ (.int .u64 0) := ⟨by simp [go_sem], by simp [go_sem]⟩
    have A1 : Lies (w.alloc (Obj.cells #[.int .u64 0, .int .u64 0] 25)) ⟨w.heap.size, 1, none⟩ (.int .u64 0) := ⟨by simp [go_sem], by simp [go_sem]⟩
    go_enter Try.func49, Try.ntmps49
    go_upto_region 4 with (first | (go_at_call 57; refine (wordOf_any _ _ _ _ R _ (HRow.out.alloc _) (by omega)).mono ?_; rintro e w1 ⟨rfl, hb⟩; replace h := (h.alloc _).later hb; replace A0 := A0.later hb; replace A1 := A1.later hb; have hb0 := below_call (below1 _ _) hb))
    have Y0 : Lies (w1.alloc (Obj.cells #[.int .u64 ((hiV R : Nat) : Int), .int .u64 ((loV R : Nat) : Int)] 25)) ⟨w1.heap.size, 0, none⟩ (.int .u64 ((hiV R : Nat) : Int)) := ⟨by simp [go_sem], by simp [go_sem]⟩
    have Y1 : Lies (w1.alloc (Obj.cells #[.int .u64 ((hiV R : Nat) : Int), .int .u64 ((loV R : Nat) : Int)] 25)) ⟨w1.heap.size, 1, none⟩ (.int .u64 ((loV R : Nat) : Int)) := ⟨by simp [go_sem], by simp [go_sem]⟩
    have hw1 := hb0.size
    go_upto_region 5 with (first | (go_at_call 40; refine (take_any g gb R 16 _ (h.alloc _) (by omega)).mono ?_; rintro e w2 ⟨rfl, hrd, hbut⟩))
    replace A0 := (A0.alloc _).but hbut (by simp; omega)
    replace A1 := (A1.alloc _).but hbut (by simp; omega)
    replace Y0 := Y0.but hbut (by simp; omega)
    replace Y1 := Y1.but hbut (by simp; omega)
    have a0 := A0.1
    have a1 := A0.2
    have a2 := A1.1
    have a3 := A1.2
    have y0 := Y0.1
    have y1 := Y1.1
    clear hl1
    go_wp2
    refine bodyPost_ret (v := .tuple #[.agg #[.int .u64 ((hiV R : Nat) : Int), .int .u64 ((loV R : Nat) : Int)], .int .i64 0]) (by simp [results, Try.results49, go_sem, a0, a2]) rfl ⟨rfl, ?_, ?_⟩
    · have hgb' := hgb (by omega)
      exact hrd.but (S := (· = w.heap.size)) (((But.refl (· = w.heap.size) w2).setCell (p := ⟨w.heap.size, 0, none⟩) rfl _).setCell (p := ⟨w.heap.size, 1, none⟩) rfl _) (by omega) (by omega)
    · exact ((((But.of hb0).alloc _).trans hbut).put (by simp) _).put (by simp) _

def capE (R : List Nat) : Int := if R.length < 24 then 17 else if 4611686018427387904 < loV R then 5 else 0
def capN (R : List Nat) : Nat := if capE R = 0 then 24 else 0
def capObj (R : List Nat) : Nat := if capE R = 0 then loV R else 0
def capHi (R : List Nat) : Nat := if capE R = 0 then hiV (R.drop 8) else 0
def capLo (R : List Nat) : Nat := if capE R = 0 then loV (R.drop 8) else 0
theorem cap_bad {R : List Nat} (h : capE R ≠ 0) : capN R = 0 ∧ capObj R = 0 ∧ capHi R = 0 ∧ capLo R = 0 := by
  unfold capN capObj capHi capLo
  rw [if_neg h, if_neg h, if_neg h, if_neg h]
  exact ⟨rfl, rfl, rfl, rfl⟩
theorem cap_ok {R : List Nat} (h : capE R = 0) : capN R = 24 ∧ capObj R = loV R ∧ capHi R = hiV (R.drop 8) ∧ capLo R = loV (R.drop 8) := by
  unfold capN capObj capHi capLo
  rw [if_pos h, if_pos h, if_pos h, if_pos h]
  exact ⟨rfl, rfl, rfl, rfl⟩
set_option maxRecDepth 100000 in
set_option maxHeartbeats 1000000 in
theorem cap_any (g gb : Nat) (R : List Nat) (w : World) (h : Rd w g gb R) :
    Calls Try.prog 50 #[.pointer (some ⟨g, 0, none⟩)] w fun e w' => e = .returned (.tuple #[.agg #[.int .i64 ((capObj R : Nat) : Int), .int .u64 ((capHi R : Nat) : Int), .int .u64 ((capLo R : Nat) : Int)], .int .i64 (capE R)]) ∧ Rd w' g gb (R.drop (capN R)) ∧ But (· = g) w w' := by
  obtain ⟨o, cap, hl, hc, hcell⟩ := h.ex
  have hl0 := hl.alloc (Obj.cells #[.int .i64 0, .int .u64 0, .int .u64 0] 27)
  have hl1 := hl0.1
  have HRow : Hid (Row w (some ⟨gb, o, none⟩) R.length cap R) := h.row hc hcell
  have hgl : g < w.heap.size := World.block_lt_of_cell? _ _ hl.1
  have hgb : 0 < R.length → gb < w.heap.size := fun h0 => World.block_lt_of_cell? _ _ (hcell 0 h0)
  have HD : Hid (8 ≤ R.length → Row w (some ⟨gb, o + 8, none⟩) (R.length - 8) (cap - 8) (R.drop 8)) := fun h8 => by
    refine Row.at (by simp) (by omega) (fun x hx => h.small x (List.mem_of_mem_drop hx)) (fun i hi => ?_)
    rw [drop_get, Nat.add_assoc]
    exact hcell _ _
  clear hcell
  by_cases h24 : R.length < 24
  · have e1 : capE R = 17 := by unfold capE; rw [if_pos h24]
    obtain ⟨e2, e3, e4, e5⟩ := cap_bad (R := R) (by omega)
    rw [e1, e2, e3, e4, e5]
    have hd : decide ((R.length : Int) < 24) = true := by simp; omega
    go_enter Try.func50, Try.ntmps50
    go_wp2
    refine bodyPost_ret (v := .tuple #[.agg #[.int .i64 0, .int .u64 0, .int .u64 0], .int .i64 17]) (by simp [results, Try.results50, go_sem]) rfl ⟨rfl, ?_, But.of (below1 _ _)⟩
    rw [List.drop_zero]
    exact h.later (below1 _ _)
  have hd : decide ((R.length : Int) < 24) = false := decide_eq_false (by omega)
  have g1 : getV R 8 = loV R := (get_full (by omega)).1
  have g2 : getE R 8 = 0 := (get_full (by omega)).2
  by_cases hbig : 4611686018427387904 < loV R
  · have e1 : capE R = 5 := by unfold capE; rw [if_neg h24, if_pos hbig]
    obtain ⟨e2, e3, e4, e5⟩ := cap_bad (R := R) (by omega)
    rw [e1, e2, e3, e4, e5]
    have hd2 : decide (4611686018427387904 < ((loV R : Nat) : Int)) = true := decide_eq_true (by omega)
    go_enter Try.func50, Try.ntmps50
    go_wp2_with (first | (go_at_call 32; refine (get64 _ _ _ R _ (HRow.out.alloc _)).mono ?_; rintro e w1 ⟨rfl, rfl⟩; rw [g1, g2]))
    refine bodyPost_ret (v := .tuple #[.agg #[.int .i64 0, .int .u64 0, .int .u64 0], .int .i64 5]) (by simp [results, Try.results50, go_sem]) rfl ⟨rfl, ?_, But.of (below1 _ _)⟩
    rw [List.drop_zero]
    exact h.later (below1 _ _)
  have e1 : capE R = 0 := by unfold capE; rw [if_neg h24, if_neg hbig]
  obtain ⟨e2, e3, e4, e5⟩ := cap_ok e1
  rw [e1, e2, e3, e4, e5]
  have hd2 : decide (4611686018427387904 < ((loV R : Nat) : Int)) = false := decide_eq_false (by omega)
  have ewv : IntKind.i64.wrap ((loV R : Nat) : Int) = ((loV R : Nat) : Int) := by rw [IntKind.wrap_i64]; omega
  have hl8 : (8 : Int) ≤ (R.length : Int) := by omega
  have hc8 : (R.length : Int) ≤ (cap : Int) := by omega
  have hnb : (cap == 8) = false := by simp; omega
  have hne : ¬ cap = 8 := by omega
  have A0 : Lies (w.alloc (Obj.cells #[.int .i64 0, .int .u64 0, .int .u64 0] 27)) ⟨w.heap.size, 0, none⟩ (.int .i64 0) := ⟨by simp [go_sem], by simp [go_sem]⟩
  have A1 : Lies (w.alloc (Obj.cells #[.int .i64 0, .int .u64 0, .int .u64 0] 27)) ⟨w.heap.size, 1, none⟩ (.int .u64 0) := ⟨by simp [go_sem], by simp [go_sem]⟩
  have A2 : Lies (w.alloc (Obj.cells #[.int .i64 0, .int .u64 0, .int .u64 0] 27)) ⟨w.heap.size, 2, none⟩ (.int .u64 0) := ⟨by simp [go_sem], by simp [go_sem]⟩
  have HD2 : Hid (Row w (some ⟨gb, o + 8, none⟩) (R.length - 8) (cap - 8) (R.drop 8)) := HD.out (by omega)
  have h16 : 16 ≤ R.length - 8 := by omega
  have h24' : 24 ≤ R.length := by omega
  clear HD h24 hbig
  go_enter Try.func50, Try.ntmps50
  go_upto_region 6 with (first | (go_at_call 32; refine (get64 _ _ _ R _ (HRow.out.alloc _)).mono ?_; rintro e w1 ⟨rfl, rfl⟩; rw [g1, g2]))
  go_upto_region 7 with (first | (go_at_call 57; refine (wordOf_any _ _ _ _ (R.drop 8) _ (HD2.out.alloc _) (by omega)).mono ?_; rintro e w1 ⟨rfl, hb⟩; replace h := (h.alloc _).later hb; replace A0 := A0.later hb; replace A1 := A1.later hb; replace A2 := A2.later hb; have hb0 := below_call (below1 _ _) hb))
  have Y0 : Lies (w1.alloc (Obj.cells #[.int .i64 ((loV R : Nat) : Int), .int .u64 ((hiV (R.drop 8) : Nat) : Int), .int .u64 ((loV (R.drop 8) : Nat) : Int)] 27)) ⟨w1.heap.size, 0, none⟩ (.int .i64 ((loV R : Nat) : Int)) := ⟨by simp [go_sem], by simp [go_sem]⟩
  have Y1 : Lies (w1.alloc (Obj.cells #[.int .i64 ((loV R : Nat) : Int), .int .u64 ((hiV (R.drop 8) : Nat) : Int), .int .u64 ((loV (R.drop 8) : Nat) : Int)] 27)) ⟨w1.heap.size, 1, none⟩ (.int .u64 ((hiV (R.drop 8) : Nat) : Int)) := ⟨by simp [go_sem], by simp [go_sem]⟩
  have Y2 : Lies (w1.alloc (Obj.cells #[.int .i64 ((loV R : Nat) : Int), .int .u64 ((hiV (R.drop 8) : Nat) : Int), .int .u64 ((loV (R.drop 8) : Nat) : Int)] 27)) ⟨w1.heap.size, 2, none⟩ (.int .u64 ((loV (R.drop 8) : Nat) : Int)) := ⟨by simp [go_sem], by simp [go_sem]⟩
  have hw1 := hb0.size
  go_upto_region 8 with (first | (go_at_call 40; refine (take_any g gb R 24 _ (h.alloc _) h24').mono ?_; rintro e w2 ⟨rfl, hrd, hbut⟩))
  replace A0 := (A0.alloc _).but hbut (by simp; omega)
  replace A1 := (A1.alloc _).but hbut (by simp; omega)
  replace A2 := (A2.alloc _).but hbut (by simp; omega)
  replace Y0 := Y0.but hbut (by simp; omega)
  replace Y1 := Y1.but hbut (by simp; omega)
  replace Y2 := Y2.but hbut (by simp; omega)
  have a0 := A0.1
  have a1 := A0.2
  have a2 := A1.1
  have a3 := A1.2
  have a4 := A2.1
  have a5 := A2.2
  have y0 := Y0.1
  have y1 := Y1.1
  have y2 := Y2.1
  clear hl1
  go_wp2
  refine bodyPost_ret (v := .tuple #[.agg #[.int .i64 ((loV R : Nat) : Int), .int .u64 ((hiV (R.drop 8) : Nat) : Int), .int .u64 ((loV (R.drop 8) : Nat) : Int)], .int .i64 0]) (by simp [results, Try.results50, go_sem, a0, a2, a4]) rfl ⟨rfl, ?_, ?_⟩
  · have hgb' := hgb (by omega)
    exact hrd.but (S := (· = w.heap.size)) ((((But.refl (· = w.heap.size) w2).setCell (p := ⟨w.heap.size, 0, none⟩) rfl _).setCell (p := ⟨w.heap.size, 1, none⟩) rfl _).setCell (p := ⟨w.heap.size, 2, none⟩) rfl _) (by omega) (by omega)
  · exact (((((But.of hb0).alloc _).trans hbut).put (by simp) _).put (by simp) _).put (by simp) _
end Go.Proofs.Ytjncgpekmilpeaa
