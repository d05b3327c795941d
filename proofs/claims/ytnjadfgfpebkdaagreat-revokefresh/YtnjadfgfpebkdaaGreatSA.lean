import Derived.Test.YtnjadfgfpebkdaaGreatA1
import Derived.WalkKit
import Derived.WalkSpells
import Derived.WalkLawsBesides
import Derived.WalkMore
import Derived.Deep.RegionHeld3
import Derived.Deep.MidRow
import Derived.Deep.QuietTactic
import Derived.Deep.DeepCutAuto
import Derived.BigQuiet
import Derived.Maps.AppendAt
import Derived.Laws.AppendOwnNone
import Derived.Laws.OwnMore
import Derived.Laws.CopyRow
import Derived.Laws.IdiomCopy
namespace Go.Proofs.YtnjadfgfpebkdaaGreat.S
open Go.RowKit

theorem info5 : (Tryz.prog.info? 5).map (fun i => (i.zero, i.size, i.bytes)) = some (some (.int .u8 0), 1, 1) := by kernel_rfl
def u8s (l : List Nat) : List Value := l.map fun (n : Nat) => Value.int .u8 (n : Int)
theorem u8s_length (l : List Nat) : (u8s l).length = l.length := by simp [u8s]
theorem u8s_append (l m : List Nat) : u8s (l ++ m) = u8s l ++ u8s m := by simp [u8s]
theorem u8s_get (l : List Nat) (i : Nat) (h : i < l.length) : (u8s l)[i]? = some (.int .u8 ((l[i] : Nat) : Int)) := by simp [u8s, h]
theorem u8s_one (l : List Nat) : ∀ u ∈ u8s l, u.oneCell' = true := by
  intro u hu
  simp only [u8s, List.mem_map] at hu
  obtain ⟨n, _, rfl⟩ := hu
  rfl
theorem append_ints {w : World} {base : Nat} {a : Option Addr} {n cap : Nat} {L : List Value} {b : Option Addr} {m c : Nat} {M : List Value} (h : Own w base 3 a n cap L) (k : Row w b m c M) (hb : base ≤ w.heap.size) (hr : (n + m) * 8 ≤ 140737488355328) :
    ∃ a' cap' w', (Builtin.append_ #[36, 36] 36 #[.slice a n cap, .slice b m c]).run Tryz.prog w = .ok (.slice a' (n + m) cap') w' ∧ Own w' base 3 a' (n + m) cap' (L ++ M) ∧ Gr a a' w w' :=
  append_gen 36 3 _ 8 Tryz.underlying36 info3 rfl h k hb hr (by omega)
theorem append_bytes {w : World} {base : Nat} {a : Option Addr} {n cap : Nat} {L : List Value} {b : Option Addr} {m c : Nat} {M : List Value} (h : Own w base 5 a n cap L) (k : Row w b m c M) (hb : base ≤ w.heap.size) (hr : n + m ≤ 140737488355328) :
    ∃ a' cap' w', (Builtin.append_ #[87, 87] 87 #[.slice a n cap, .slice b m c]).run Tryz.prog w = .ok (.slice a' (n + m) cap') w' ∧ Own w' base 5 a' (n + m) cap' (L ++ M) ∧ Gr a a' w w' :=
  append_gen 87 5 _ 1 Tryz.underlying87 info5 rfl h k hb (by omega) hr
end Go.Proofs.YtnjadfgfpebkdaaGreat.S
namespace Go.Proofs.YtnjadfgfpebkdaaGreat.S
open Go.RowKit
set_option linter.unusedVariables false

/-- The program's arena: its box g, its pages' block pb. -/
structure Arn (w : World) (g pb n : Nat) (t : Nat → Bool) (B : Nat → Nat → Nat) : Prop where
  ne : g ≠ pb
  le : n ≤ 256
  head : w.cell? ⟨g, 0, none⟩ = some (.slice (some ⟨pb, 0, none⟩) n n)
  mark : ∀ i, i < 256 → Lies w ⟨g, 1 + i, none⟩ (.bool (t i))
  page : ∀ i j, i < n → j < 64 → Lies w ⟨pb, i * 64 + j, none⟩ (.int .u8 ((B i j : Nat) : Int))
  lt : pb < w.heap.size
  only : ∀ i, t i = true → i < n
  zero : ∀ i j, t i = false → B i j = 0
  small : ∀ i j, B i j < 256
theorem Arn.but {S : Nat → Prop} {w w' : World} {g pb n : Nat} {t : Nat → Bool} {B : Nat → Nat → Nat} (hb : But S w w') (h : Arn w g pb n t B) (h1 : ¬ S g) (h2 : ¬ S pb) : Arn w' g pb n t B :=
  ⟨h.ne, h.le, cell_but hb h.head h1, fun i hi => (h.mark i hi).but hb h1, fun i j hi hj => (h.page i j hi hj).but hb h2, Nat.lt_of_lt_of_le h.lt hb.size, h.only, h.zero, h.small⟩
theorem Arn.later {w w' : World} {g pb n : Nat} {t : Nat → Bool} {B : Nat → Nat → Nat} (hb : Below w.heap.size w w') (h : Arn w g pb n t B) : Arn w' g pb n t B :=
  h.but (S := fun _ => False) (But.of hb) (fun h => h) (fun h => h)
theorem Arn.alloc {w : World} {g pb n : Nat} {t : Nat → Bool} {B : Nat → Nat → Nat} (h : Arn w g pb n t B) (o : Obj) : Arn (w.alloc o) g pb n t B := h.later (below1 _ _)
theorem Arn.glt {w : World} {g pb n : Nat} {t : Nat → Bool} {B : Nat → Nat → Nat} (h : Arn w g pb n t B) : g < w.heap.size := World.block_lt_of_cell? _ _ h.head

theorem info180 : (Tryz.prog.info? 180).map (fun i => (i.zero, i.size, i.bytes)) = some (some (.agg (#[.slice none 0 0] ++ Array.replicate 256 (.bool false))), 257, 280) := by kernel_rfl
theorem zero_of {t : TypeId} {z : Value} {s b : Nat} (h : (Tryz.prog.info? t).map (fun i => (i.zero, i.size, i.bytes)) = some (some z, s, b)) (w : World) : (zeroValue t).run Tryz.prog w = .ok z w := by
  obtain ⟨i, hi, hz0, hz1, hz2⟩ := info_parts h
  simp [zeroValue, typeInfo, hi, hz0]
theorem zero100 : ∃ Z : Array Value, (∀ w, (zeroValue 180).run Tryz.prog w = .ok (.agg Z) w) ∧ Z.size = 257 ∧ ∀ i, i < 256 → Z[1 + i]? = some (.bool false) :=
  ⟨_, zero_of info180, by simp, fun i hi => by
    rw [Array.getElem?_append_right (by simp)]
    simp [hi]⟩
theorem info183 : (Tryz.prog.info? 183).map (fun i => (i.zero, i.size, i.bytes)) = some (some (.agg (Array.replicate 64 (.int .u8 0))), 64, 64) := by kernel_rfl
theorem make_pages (w : World) (n : Nat) (hn : n ≤ 256) : ∃ w', (Instr.makeSlice 176 (.int .i64 (n : Int)) (.int .i64 (n : Int))).run Tryz.prog w = .ok (.slice (some ⟨w.heap.size, 0, none⟩) n n) w' ∧
    (∀ j, j < n * 64 → Lies w' ⟨w.heap.size, j, none⟩ (.int .u8 0)) ∧ w.heap.size < w'.heap.size ∧ Below w.heap.size w w' := by
  obtain ⟨i, hi, hz0, hz1, hz2⟩ := info_parts info183
  obtain ⟨w', hr, ho, hg⟩ := run_make_full (P := Tryz.prog) w w.heap.size 176 183 i _ 64 Tryz.underlying176 hi hz0 hz1 .i64 .i64 n (by rw [hz2]; omega) (by unfold maxLen; omega) (Nat.le_refl _)
  rcases ho.2 with ⟨h0, _⟩ | ⟨g, c, cur, hv, hg2, hh, hc, hm, hsz, htk⟩
  · simp at h0
  · simp only [Value.slice.injEq, Option.some.injEq, Addr.mk.injEq] at hv
    obtain ⟨⟨rfl, _⟩, _, rfl⟩ := hv
    refine ⟨w', hr, fun j hj => ⟨?_, by simp [World.frozen?, hh]⟩, (Array.getElem?_eq_some_iff.1 hh).1, (Below.refl _ _).grown hg (Nat.le_refl _) (fun k hk => by cases hk)⟩
    have hq := ho.cells (g := w.heap.size) rfl j (.int .u8 0) (by
      simp only [madeCells, Array.getElem?_toList, Value.cells]
      simp [hj, Nat.mod_lt])
    rwa [addr_add0] at hq
set_option maxRecDepth 100000 in
set_option maxHeartbeats 1000000 in
theorem new_ok (n : Nat) (w : World) (hn : n ≤ 256) :
    Calls Tryz.prog 72 #[.int .i64 (n : Int)] w fun e w' => ∃ g pb, e = .returned (.tuple #[.pointer (some ⟨g, 0, none⟩), .int .i64 0]) ∧ Arn w' g pb n (fun _ => false) (fun _ _ => 0) ∧ w.heap.size ≤ g ∧ w.heap.size ≤ pb ∧ Below w.heap.size w w' := by
  obtain ⟨w1, hmk, hl, hlt, hb⟩ := make_pages w n hn
  obtain ⟨Z, hz, hZs, hZi⟩ := zero100
  have hZ0 : (Z = #[]) = False := eq_false (fun h => by rw [h] at hZs; simp at hZs)
  have hd1 : decide ((n : Int) < 0) = false := decide_eq_false (by omega)
  have hd2 : decide ((n : Int) > 256) = false := decide_eq_false (by omega)
  have HL : Hid (∀ j, j < n * 64 → Lies w1 ⟨w.heap.size, j, none⟩ (.int .u8 0)) := hl
  have HB : Hid (Below w.heap.size w w1) := hb
  have HZ : Hid (Z.size = 257 ∧ ∀ i, i < 256 → Z[1 + i]? = some (.bool false)) := ⟨hZs, hZi⟩
  clear hl hb hZs hZi
  go_enter Tryz.func72, Tryz.ntmps72
  go_wp2
  obtain ⟨hZs, hZi⟩ := HZ.out
  have hb2 := below1 w1 (.cells (Z.setIfInBounds 0 (Value.slice (some ⟨w.heap.size, 0, none⟩) n n)) 180)
  have hh := heap_alloc_new w1 (.cells (Z.setIfInBounds 0 (Value.slice (some ⟨w.heap.size, 0, none⟩) n n)) 180)
  refine bodyPost_ret (v := .tuple #[.pointer (some ⟨w1.heap.size, 0, none⟩), .int .i64 0]) (by simp [results, Tryz.results72, go_sem]) rfl ⟨_, w.heap.size, rfl, ⟨by omega, hn, ?_, fun i hi => ⟨?_, ?_⟩, fun i j hi hj => ?_, (by simp; omega), fun _ h => (by cases h), fun _ _ _ => rfl, fun _ _ => (by omega)⟩, by omega, Nat.le_refl _, below_call HB.out hb2⟩
  · rw [cell_of_row _ _ _ _ _ _ hh]
    simp [hZs]
  · rw [cell_of_row _ _ _ _ _ _ hh, Array.getElem?_setIfInBounds_ne (by omega)]
    exact hZi i hi
  · simp only [World.frozen?, hh]
    simp
  · exact (HL.out (i * 64 + j) (by omega)).later hb2
/-- Is there such a page? -/
def thr (n : Nat) (p : Int) : Bool := decide (0 ≤ p ∧ p < (n : Int))
set_option maxRecDepth 100000 in
set_option maxHeartbeats 1000000 in
theorem there_any (g pb n : Nat) (p : Int) (w : World) (x : w.cell? ⟨g, 0, none⟩ = some (.slice (some ⟨pb, 0, none⟩) n n)) :
    Calls Tryz.prog 126 #[.pointer (some ⟨g, 0, none⟩), .int .i64 p] w fun e w' => e = .returned (.bool (thr n p)) ∧ w' = w := by
  unfold thr
  by_cases h0 : 0 ≤ p
  · have hd : decide (0 ≤ p ∧ p < (n : Int)) = decide (p < (n : Int)) := by simp [h0]
    have hg : decide (p ≥ 0) = true := decide_eq_true h0
    go_enter Tryz.func126, Tryz.ntmps126
    go_wp2
    go_ret
    exact ⟨ret_bool hd.symm, rfl⟩
  · have hd : decide (0 ≤ p ∧ p < (n : Int)) = false := by simp [h0]
    have hg : decide (p ≥ 0) = false := decide_eq_false h0
    go_enter Tryz.func126, Tryz.ntmps126
    go_wp2
    go_ret
    exact ⟨rfl, rfl⟩
end Go.Proofs.YtnjadfgfpebkdaaGreat.S
namespace Go.Proofs.YtnjadfgfpebkdaaGreat.S
open Go.RowKit
set_option linter.unusedVariables false

/-- The numbers of the pages whose mark is b, rising. -/
def lst (n : Nat) (t : Nat → Bool) (b : Bool) : List Nat := (List.range n).filter fun i => t i == b
def nats (l : List Nat) : List Int := l.map fun (k : Nat) => (k : Int)
theorem nats_length (l : List Nat) : (nats l).length = l.length := by simp [nats]
theorem nats_append (l m : List Nat) : nats (l ++ m) = nats l ++ nats m := by simp [nats]
theorem lst_succ (n : Nat) (t : Nat → Bool) (b : Bool) : lst (n + 1) t b = lst n t b ++ (if t n == b then [n] else []) := by
  simp only [lst, List.range_succ, List.filter_append]
  congr 1
  by_cases h : t n == b <;> simp [h]
theorem lst_length (n : Nat) (t : Nat → Bool) (b : Bool) : (lst n t b).length ≤ n := by
  have := List.length_filter_le (fun i => t i == b) (List.range n)
  simpa [lst] using this
theorem mem_lst {n : Nat} {t : Nat → Bool} {b : Bool} {i : Nat} : i ∈ lst n t b ↔ i < n ∧ t i = b := by simp [lst]

def ListRel (w : World) (n : Nat) (t : Nat → Bool) (b : Bool) (v k : Value) (w' : World) : Prop :=
  ∃ (i : Nat) (a : Option Addr) (m cap : Nat), v = .slice a m cap ∧ k = .int .i64 (i : Int) ∧ i ≤ n ∧ m ≤ i ∧ Own w' w.heap.size 3 a m cap (ints (nats (lst i t b))) ∧ Below w.heap.size w w'
set_option maxRecDepth 100000 in
set_option maxHeartbeats 1000000 in
theorem listed_any (g pb n : Nat) (t : Nat → Bool) (B : Nat → Nat → Nat) (b : Bool) (w : World) (h : Arn w g pb n t B) :
    Calls Tryz.prog 109 #[.pointer (some ⟨g, 0, none⟩), .bool b] w fun e w' => ∃ a m cap, e = .returned (.slice a m cap) ∧ Own w' w.heap.size 3 a m cap (ints (nats (lst n t b))) ∧ Below w.heap.size w w' := by
  have x := h.head
  have HA : Hid (Arn w g pb n t B) := h
  have hn := h.le
  clear h
  go_enter Tryz.func109, Tryz.ntmps109
  go_wp2
  go_loopw [5, 12] (ListRel w n t b) (fun _ k _ => n - (intOf k).toNat)
  case atStart => exact ⟨0, none, 0, 0, rfl, rfl, Nat.zero_le _, Nat.le_refl _, Own.nil _ _ _, Below.refl _ _⟩
  case round =>
    clear x
    obtain ⟨i, a, m, cap, rfl, rfl, hi, hm, hO, hB⟩ := hrel
    have HO : Hid (Own wr w.heap.size 3 a m cap (ints (nats (lst i t b)))) := hO
    have HB : Hid (Below w.heap.size w wr) := hB
    clear hO hB
    by_cases hlt : i < n
    · have hd : decide ((i : Int) < (n : Int)) = true := decide_eq_true (by omega)
      have y := ((HA.out.later HB.out).mark i (by omega)).1
      cases he : (t i == b) with
      | true =>
        obtain ⟨a', cap', w2, hrun, hO2, hG⟩ := append_ints (HO.out.alloc (Obj.cells #[Value.int .i64 (i : Int)] 3)) (Row.single wr 3 (.int .i64 (i : Int)) rfl) (by have := HB.out.size; simp; omega) (by omega)
        have HRUN := hid hrun
        have hB2 : Below w.heap.size w w2 := (HB.out.alloc HB.out.size _).trans (Gr.below (HO.out.alloc _) hG (by have := HB.out.size; simp; omega))
        have HO2 : Hid (Own w2 w.heap.size 3 a' (m + 1) cap' (ints (nats (lst (i + 1) t b)))) := by
          rw [lst_succ, he, nats_append, ints_append]
          exact hO2
        have HB2 := hid hB2
        clear hrun hO2 hG hB2
        go_wp2_with (first | (at_builtin; refine wpList_append_known rfl _ _ 36 rfl _ _ rfl rfl _ w2 HRUN.out ?_))
        exact ⟨⟨i + 1, a', m + 1, cap', rfl, rfl, by omega, by omega, HO2.out, HB2.out⟩, by simp [intOf]; omega⟩
      | false =>
        have HO2 : Hid (Own wr w.heap.size 3 a m cap (ints (nats (lst (i + 1) t b)))) := by
          refine hid ?_
          rw [lst_succ, he]
          simpa using HO.out
        go_wp2
        exact ⟨⟨i + 1, a, m, cap, rfl, rfl, by omega, by omega, HO2.out, HB.out⟩, by simp [intOf]; omega⟩
    · obtain rfl : i = n := by omega
      have hd : decide ((i : Int) < (i : Int)) = false := by simp
      go_wp2
      go_ret
      exact ⟨a, m, cap, rfl, HO.out, HB.out⟩
set_option maxRecDepth 100000 in
set_option maxHeartbeats 1000000 in
theorem free_any (g pb n : Nat) (t : Nat → Bool) (B : Nat → Nat → Nat) (w : World) (h : Arn w g pb n t B) :
    Calls Tryz.prog 103 #[.pointer (some ⟨g, 0, none⟩)] w fun e w' => e = .returned (.int .i64 ((lst n t false).length : Int)) ∧ Below w.heap.size w w' := by
  have H := hid h
  clear h
  go_enter Tryz.func103, Tryz.ntmps103
  go_wp2_with (first | (go_at_call 109; refine (listed_any g pb n t B false _ H.out).mono ?_; rintro e w1 ⟨a, m, cap, rfl, O, hb⟩))
  go_ret
  have hl := O.len
  rw [ints_length, nats_length] at hl
  exact ⟨ret_int (by rw [hl]), hb⟩
/-- Why a place can't be had. -/
def lookE (n : Nat) (t : Nat → Bool) (p off m : Int) : Int := if thr n p = true ∧ t p.toNat = true then (if 0 ≤ off ∧ 0 ≤ m ∧ m ≤ 64 - off then 0 else 5) else 20
set_option maxRecDepth 100000 in
set_option maxHeartbeats 1000000 in
theorem look_any (g pb n : Nat) (t : Nat → Bool) (B : Nat → Nat → Nat) (p off m : Int) (w : World) (h : Arn w g pb n t B) (ho : -9223372036854775808 ≤ off ∧ off < 9223372036854775808) :
    Calls Tryz.prog 108 #[.pointer (some ⟨g, 0, none⟩), .int .i64 p, .int .i64 off, .int .i64 m] w fun e w' => e = .returned (.int .i64 (lookE n t p off m)) ∧ w' = w := by
  have x := h.head
  have H := hid h
  have hn := h.le
  clear h
  have HW : Hid (0 ≤ off → IntKind.i64.wrap (64 - off) = 64 - off) := hid (fun h => by rw [IntKind.wrap_i64]; omega)
  obtain ⟨E, hE⟩ : ∃ E, E = lookE n t p off m := ⟨_, rfl⟩
  rw [← hE]
  have HE := hid hE
  clear hE
  cases hth : thr n p with
  | false =>
    go_enter Tryz.func108, Tryz.ntmps108
    go_wp2_with (first | (go_at_call 126; refine (there_any g pb n p _ x).mono ?_; rintro e w1 ⟨rfl, rfl⟩; rw [hth]))
    go_ret
    exact ⟨ret_int (by rw [HE.out]; simp [lookE, hth]), rfl⟩
  | true =>
    obtain ⟨q, rfl⟩ : ∃ q : Nat, p = (q : Int) := ⟨p.toNat, by simp [thr] at hth; omega⟩
    have hq : q < n := by simp [thr] at hth; omega
    have y := (H.out.mark q (by omega)).1
    cases htq : t q with
    | false =>
      rw [htq] at y
      go_enter Tryz.func108, Tryz.ntmps108
      go_wp2_with (first | (go_at_call 126; refine (there_any g pb n (q : Int) _ x).mono ?_; rintro e w1 ⟨rfl, rfl⟩; rw [hth]))
      go_ret
      exact ⟨ret_int (by rw [HE.out]; simp [lookE, htq]), rfl⟩
    | true =>
      rw [htq] at y
      have e1 : lookE n t (q : Int) off m = if 0 ≤ off ∧ 0 ≤ m ∧ m ≤ 64 - off then 0 else 5 := by simp [lookE, hth, htq]
      rw [e1] at HE
      clear e1 ho
      by_cases h0 : off < 0
      · have hd0 : decide (off < 0) = true := decide_eq_true h0
        go_enter Tryz.func108, Tryz.ntmps108
        go_wp2_with (first | (go_at_call 126; refine (there_any g pb n (q : Int) _ x).mono ?_; rintro e w1 ⟨rfl, rfl⟩; rw [hth]))
        go_ret
        exact ⟨ret_int (by rw [HE.out, if_neg (by omega)]), rfl⟩
      · have hd0 : decide (off < 0) = false := decide_eq_false h0
        by_cases h1 : m < 0
        · have hd1 : decide (m < 0) = true := decide_eq_true h1
          go_enter Tryz.func108, Tryz.ntmps108
          go_wp2_with (first | (go_at_call 126; refine (there_any g pb n (q : Int) _ x).mono ?_; rintro e w1 ⟨rfl, rfl⟩; rw [hth]))
          go_ret
          exact ⟨ret_int (by rw [HE.out, if_neg (by omega)]), rfl⟩
        · have hd1 : decide (m < 0) = false := decide_eq_false h1
          have ew : IntKind.i64.wrap (64 - off) = 64 - off := HW.out (by omega)
          by_cases h2 : m > 64 - off
          · have hd2 : decide (m > 64 - off) = true := decide_eq_true h2
            go_enter Tryz.func108, Tryz.ntmps108
            go_wp2_with (first | (go_at_call 126; refine (there_any g pb n (q : Int) _ x).mono ?_; rintro e w1 ⟨rfl, rfl⟩; rw [hth]))
            go_ret
            exact ⟨ret_int (by rw [HE.out, if_neg (by omega)]), rfl⟩
          · have hd2 : decide (m > 64 - off) = false := decide_eq_false h2
            go_enter Tryz.func108, Tryz.ntmps108
            go_wp2_with (first | (go_at_call 126; refine (there_any g pb n (q : Int) _ x).mono ?_; rintro e w1 ⟨rfl, rfl⟩; rw [hth]))
            go_ret
            exact ⟨ret_int (by rw [HE.out, if_pos (by omega)]), rfl⟩
end Go.Proofs.YtnjadfgfpebkdaaGreat.S
namespace Go.Proofs.YtnjadfgfpebkdaaGreat.S
open Go.RowKit
set_option linter.unusedVariables false

/-- Nothing of the list's block is frozen. -/
def Soft (w : World) (a : Option Addr) : Prop := ∀ x, a = some x → ∀ j, w.frozen? ⟨x.block, j, none⟩ = false
theorem _root_.Go.Proofs.YtnjadfgfpebkdaaGreat.Own.soft {w : World} {base : Nat} {e : TypeId} {a : Option Addr} {n cap : Nat} {L : List Value} (h : Own w base e a n cap L) : Soft w a := by
  intro x hx j
  rcases h.row.2 with ⟨h1, hn⟩ | ⟨g, c, cur, hv, _, hh, hc, _⟩
  · subst hx; simp at h1
  · subst hx
    simp only [Value.slice.injEq, Option.some.injEq] at hv
    obtain ⟨rfl, _, rfl⟩ := hv
    simp [World.frozen?, hh]
theorem Soft.but {S : Nat → Prop} {w w' : World} {a : Option Addr} (hb : But S w w') (h : Soft w a) (hl : ∀ k, Blk a k → k < w.heap.size) (hn : ∀ k, Blk a k → ¬ S k) : Soft w' a := fun x hx j => by
  have e : w'.frozen? ⟨x.block, j, none⟩ = w.frozen? ⟨x.block, j, none⟩ := World.frozen?_of_block (hb.block x.block (hl _ ⟨x, hx, rfl⟩) (hn _ ⟨x, hx, rfl⟩))
  rw [e]
  exact h x hx j
/-- A list that was answered: it reads L, lies in memory from base on, and may be written. -/
structure Ans (w : World) (base : Nat) (a : Option Addr) (n cap : Nat) (L : List Value) : Prop where
  row : Row w a n cap L
  soft : Soft w a
  ge : ∀ k, Blk a k → base ≤ k
  lt : ∀ k, Blk a k → k < w.heap.size
theorem Ans.but {S : Nat → Prop} {w w' : World} {base : Nat} {a : Option Addr} {n cap : Nat} {L : List Value} (hb : But S w w') (h : Ans w base a n cap L) (hn : ∀ k, Blk a k → ¬ S k) : Ans w' base a n cap L :=
  ⟨h.row.but hb hn, h.soft.but hb h.lt hn, h.ge, fun k hk => Nat.lt_of_lt_of_le (h.lt k hk) hb.size⟩
theorem Ans.later {w w' : World} {base : Nat} {a : Option Addr} {n cap : Nat} {L : List Value} (hb : Below w.heap.size w w') (h : Ans w base a n cap L) : Ans w' base a n cap L :=
  h.but (S := fun _ => False) (But.of hb) (fun _ _ h => h)
theorem _root_.Go.Proofs.YtnjadfgfpebkdaaGreat.Own.ans {w : World} {base : Nat} {e : TypeId} {a : Option Addr} {n cap : Nat} {L : List Value} (h : Own w base e a n cap L) : Ans w base a n cap L := ⟨h.read, h.soft, h.blk, h.lt⟩
theorem Ans.mono {w : World} {base b : Nat} {a : Option Addr} {n cap : Nat} {L : List Value} (h : Ans w base a n cap L) (hb : b ≤ base) : Ans w b a n cap L := ⟨h.row, h.soft, fun k hk => Nat.le_trans hb (h.ge k hk), h.lt⟩

/-- The marks behind a Take. -/
def tk (t : Nat → Bool) (L : List Nat) : Nat → Bool := fun i => t i || decide (i ∈ L)
theorem tk_nil (t : Nat → Bool) : tk t [] = t := by funext i; simp [tk]
theorem Arn.mark_set {w : World} {g pb n : Nat} {t u : Nat → Bool} {B : Nat → Nat → Nat} {k : Nat} {b : Bool} (h : Arn w g pb n t B) (hk : k < n) (hu : ∀ i, u i = if i = k then b else t i) (hC : ∀ i j, u i = false → B i j = 0) :
    Arn (w.setCell ⟨g, 1 + k, none⟩ (.bool b)) g pb n u B := by
  have hn := h.le
  refine ⟨h.ne, h.le, ?_, fun i hi => ?_, fun i j hi hj => (h.page i j hi hj).other (fun e => h.ne (congrArg Addr.block e)), by simpa using h.lt, fun i hi => ?_, hC, h.small⟩
  · rw [World.cell?_setCell_other _ _ _ _ (fun e => by have := congrArg Addr.off e; simp at this)]
    exact h.head
  · rw [hu i]
    by_cases e : i = k
    · subst e
      rw [if_pos rfl]
      exact (h.mark i hi).put
    · rw [if_neg e]
      exact (h.mark i hi).other (fun e2 => e (by have := congrArg Addr.off e2; simp at this; omega))
  · rw [hu i] at hi
    split at hi
    · omega
    · exact h.only i hi

def TakeRel (w1 : World) (g pb n : Nat) (t : Nat → Bool) (B : Nat → Nat → Nat) (K : Nat) (v : Value) (w' : World) : Prop :=
  ∃ i : Nat, v = .int .i64 (i : Int) ∧ i ≤ K ∧ Arn w' g pb n (tk t ((lst n t false).take i)) B ∧ But (· = g) w1 w'
theorem ints_nats_get (L : List Nat) (i : Nat) (h : i < L.length) : (ints (nats L))[i]? = some (.int .i64 ((L[i] : Nat) : Int)) := by
  rw [ints_get _ i (by rw [nats_length]; exact h)]
  simp [nats]
set_option maxRecDepth 100000 in
set_option maxHeartbeats 1000000 in
theorem take_ok (g pb n : Nat) (t : Nat → Bool) (B : Nat → Nat → Nat) (K : Nat) (w : World) (h : Arn w g pb n t B) (hk : K ≤ (lst n t false).length) :
    Calls Tryz.prog 79 #[.pointer (some ⟨g, 0, none⟩), .int .i64 (K : Int)] w fun e w' => ∃ a, e = .returned (.tuple #[.slice a K K, .int .i64 0]) ∧ Ans w' w.heap.size a K K (ints (nats ((lst n t false).take K))) ∧
      Arn w' g pb n (tk t ((lst n t false).take K)) B ∧ But (· = g) w w' := by
  have hd : decide ((K : Int) < 0) = false := decide_eq_false (by omega)
  have H := hid h
  have HK := hid hk
  have hgl := h.glt
  have hn := h.le
  have hK2 : K ≤ 256 := Nat.le_trans hk (Nat.le_trans (lst_length n t false) hn)
  clear h hk
  go_enter Tryz.func79, Tryz.ntmps79
  go_upto_region 4 with (first | (go_at_call 109; refine (listed_any g pb n t B false _ H.out).mono ?_; rintro e w1 ⟨a, m, cap, rfl, O, hb⟩))
  have hl := O.len
  rw [ints_length, nats_length] at hl
  have hKm : K ≤ m := by have := HK.out; omega
  have hd2 : decide ((K : Int) > (m : Int)) = false := decide_eq_false (by omega)
  have HL := hid hl
  have HO := hid O
  have HB := hid hb
  have hcap := O.read.cap_
  clear hl O hb
  cases a with
  | none =>
    obtain ⟨rfl, rfl⟩ := HO.out.read.none_ rfl
    obtain rfl : K = 0 := by omega
    have HZ : Hid (Arn w1 g pb n (tk t ((lst n t false).take 0)) B) := hid (by rw [List.take_zero, tk_nil]; exact H.out.later HB.out)
    simp only [Int.cast_ofNat_Int]
    go_wp2
    go_loopw [21] (fun k w' => k = .int .i64 0 ∧ w1 = w') (fun _ _ => 0)
    case atStart => exact ⟨rfl, rfl⟩
    case round =>
      obtain ⟨rfl, rfl⟩ := hrel
      go_wp2
      refine bodyPost_ret (v := .tuple #[.slice none 0 0, .int .i64 0]) (by simp [results, Tryz.results79, go_sem]) rfl ⟨none, rfl, ⟨?_, fun _ h => (by cases h), fun _ h => ?_, fun _ h => ?_⟩, HZ.out, But.of HB.out⟩
      · exact row_nil _
      · obtain ⟨_, h, _⟩ := h
        cases h
      · obtain ⟨_, h, _⟩ := h
        cases h
  | some x =>
    obtain ⟨gb, rfl, hgb⟩ : ∃ gb, x = ⟨gb, 0, none⟩ ∧ w.heap.size ≤ gb := by
      rcases HO.out.row.2 with ⟨h1, hn⟩ | ⟨gb, c, cur, hv, hgb, _⟩
      · simp at h1
      · simp only [Value.slice.injEq, Option.some.injEq] at hv
        exact ⟨gb, hv.1, hgb⟩
    go_upto_region 7 with fail
    go_loopw [21] (TakeRel w1 g pb n t B K) (fun k _ => K - (intOf k).toNat)
    case atStart => exact ⟨0, rfl, Nat.zero_le _, by rw [List.take_zero, tk_nil]; exact H.out.later HB.out, But.refl _ _⟩
    case round =>
      obtain ⟨i, rfl, hi, hA, hBt⟩ := hrel
      have HA := hid hA
      have HBt := hid hBt
      clear hA hBt
      by_cases hlt : i < K
      · have hd3 : decide ((i : Int) < (K : Int)) = true := decide_eq_true (by omega)
        have hil : i < (lst n t false).length := by have := HL.out; omega
        obtain ⟨q, hq⟩ : ∃ q, q = (lst n t false)[i] := ⟨_, rfl⟩
        have hqm : q < n ∧ t q = false := mem_lst.1 (by rw [hq]; exact List.getElem_mem _)
        have hqn := hqm.1
        have y : wr.cell? ⟨gb, i, none⟩ = some (.int .i64 (q : Int)) := by
          have := (HO.out.read.but HBt.out (fun k hk e => by obtain ⟨z, hz, rfl⟩ := hk; cases hz; simp only at e; omega)).cells _ rfl i _ (ints_nats_get _ i hil)
          rw [addr_add0] at this
          rw [hq]
          exact this
        have z := HA.out.mark q (by omega)
        have z1 := z.1
        have z2 := z.2
        have HN : Hid (Arn (wr.setCell ⟨g, 1 + q, none⟩ (.bool true)) g pb n (tk t ((lst n t false).take (i + 1))) B) := HA.out.mark_set hqn (fun j => by
          rw [List.take_add_one, List.getElem?_eq_getElem hil, ← hq]
          simp only [tk, Option.toList_some, List.mem_append, List.mem_singleton]
          by_cases e : j = q
          · simp [e]
          · simp [e]) (fun j b hj => H.out.zero j b (by simp [tk] at hj; exact hj.1))
        have HNB : Hid (But (· = g) w1 (wr.setCell ⟨g, 1 + q, none⟩ (.bool true))) := HBt.out.setCell (p := ⟨g, 1 + q, none⟩) (show g = g from rfl) _
        clear z hq hqm
        go_wp2
        exact ⟨⟨i + 1, rfl, by omega, HN.out, HNB.out⟩, by simp [intOf]; omega⟩
      · obtain rfl : i = K := by omega
        go_wp2
        have hO := HO.out.ans.but HBt.out (fun k hk e => by obtain ⟨z, hz, rfl⟩ := hk; cases hz; simp only at e; omega)
        have hr := hO.row.sub (m := i) (c := i) hKm (Nat.le_refl _) (fun h => by cases h)
        refine bodyPost_ret (v := .tuple #[.slice (some ⟨gb, 0, none⟩) i i, .int .i64 0]) (by simp [results, Tryz.results79, go_sem]) rfl ⟨_, rfl, ⟨?_, hO.soft, hO.ge, hO.lt⟩, HA.out, (But.of HB.out).trans HBt.out⟩
        simpa [ints, nats, List.map_take] using hr
end Go.Proofs.YtnjadfgfpebkdaaGreat.S
