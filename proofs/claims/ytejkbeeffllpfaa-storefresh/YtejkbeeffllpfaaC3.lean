import Derived.Test.YtejkbeeffllpfaaC2
namespace Go.Proofs.Ytejkbeeffllpfaa
open Go.RowKit
set_option linter.unusedVariables false

/-- Nothing of the list's block is frozen. -/
def Soft (w : World) (a : Option Addr) : Prop := ∀ x, a = some x → ∀ j, w.frozen? ⟨x.block, j, none⟩ = false
theorem Own.soft {w : World} {base : Nat} {e : TypeId} {a : Option Addr} {n cap : Nat} {L : List Value} (h : Own w base e a n cap L) : Soft w a := by
  intro x hx j
  rcases h.row.2 with ⟨h1, hn⟩ | ⟨g, c, cur, hv, _, hh, hc, _⟩
  · subst hx; simp at h1
  · subst hx
    simp only [Value.slice.injEq, Option.some.injEq] at hv
    obtain ⟨rfl, _, rfl⟩ := hv
    simp [World.frozen?, hh]
theorem Soft.but {S : Nat → Prop} {w w' : World} {a : Option Addr} (hb : But S w w') (h : Soft w a) (hl : ∀ k, Blk a k → k < w.heap.size) (hn : ∀ k, Blk a k → ¬ S k) : Soft w' a := fun x hx j => by
  have e : w'.frozen? ⟨x.block, j, none⟩ = w.frozen? ⟨x.block, j, none⟩ := World.frozen?_of_block (hb.block x.block (hl _ ⟨x, hx, rfl⟩) (hn _ ⟨x, hx, rfl⟩))
  rw [e]
  exact h x hx j
/-- A list that was answered: it reads L, lies in memory from base on, and may be written. -/
structure Ans (w : World) (base : Nat) (a : Option Addr) (n cap : Nat) (L : List Value) : Prop where
  row : Row w a n cap L
  soft : Soft w a
  ge : ∀ k, Blk a k → base ≤ k
  lt : ∀ k, Blk a k → k < w.heap.size
theorem Ans.but {S : Nat → Prop} {w w' : World} {base : Nat} {a : Option Addr} {n cap : Nat} {L : List Value} (hb : But S w w') (h : Ans w base a n cap L) (hn : ∀ k, Blk a k → ¬ S k) : Ans w' base a n cap L :=
  ⟨h.row.but hb hn, h.soft.but hb h.lt hn, h.ge, fun k hk => Nat.lt_of_lt_of_le (h.lt k hk) hb.size⟩
theorem Ans.later {w w' : World} {base : Nat} {a : Option Addr} {n cap : Nat} {L : List Value} (hb : Below w.heap.size w w') (h : Ans w base a n cap L) : Ans w' base a n cap L :=
  h.but (S := fun _ => False) (But.of hb) (fun _ _ h => h)
theorem Own.ans {w : World} {base : Nat} {e : TypeId} {a : Option Addr} {n cap : Nat} {L : List Value} (h : Own w base e a n cap L) : Ans w base a n cap L := ⟨h.read, h.soft, h.blk, h.lt⟩
theorem Ans.mono {w : World} {base b : Nat} {a : Option Addr} {n cap : Nat} {L : List Value} (h : Ans w base a n cap L) (hb : b ≤ base) : Ans w b a n cap L := ⟨h.row, h.soft, fun k hk => Nat.le_trans hb (h.ge k hk), h.lt⟩

/-- The marks behind a Take. -/
def tk (t : Nat → Bool) (L : List Nat) : Nat → Bool := fun i => t i || decide (i ∈ L)
theorem tk_nil (t : Nat → Bool) : tk t [] = t := by funext i; simp [tk]
theorem Arn.mark_set {w : World} {g pb n : Nat} {t u : Nat → Bool} {B : Nat → Nat → Nat} {k : Nat} {b : Bool} (h : Arn w g pb n t B) (hk : k < n) (hu : ∀ i, u i = if i = k then b else t i) (hC : ∀ i j, u i = false → B i j = 0) :
    Arn (w.setCell ⟨g, 1 + k, none⟩ (.bool b)) g pb n u B := by
  have hn := h.le
  refine ⟨h.ne, h.le, ?_, fun i hi => ?_, fun i j hi hj => (h.page i j hi hj).other (fun e => h.ne (congrArg Addr.block e)), by simpa using h.lt, fun i hi => ?_, hC, h.small⟩
  · rw [World.cell?_setCell_other _ _ _ _ (fun e => by have := congrArg Addr.off e; simp at this)]
    exact h.head
  · rw [hu i]
    by_cases e : i = k
    · subst e
      rw [if_pos rfl]
      exact (h.mark i hi).put
    · rw [if_neg e]
      exact (h.mark i hi).other (fun e2 => e (by have := congrArg Addr.off e2; simp at this; omega))
  · rw [hu i] at hi
    split at hi
    · omega
    · exact h.only i hi

def TakeRel (w1 : World) (g pb n : Nat) (t : Nat → Bool) (B : Nat → Nat → Nat) (K : Nat) (v : Value) (w' : World) : Prop :=
  ∃ i : Nat, v = .int .i64 (i : Int) ∧ i ≤ K ∧ Arn w' g pb n (tk t ((lst n t false).take i)) B ∧ But (· = g) w1 w'
theorem ints_nats_get (L : List Nat) (i : Nat) (h : i < L.length) : (ints (nats L))[i]? = some (.int .i64 ((L[i] : Nat) : Int)) := by
  rw [ints_get _ i (by rw [nats_length]; exact h)]
  simp [nats]
set_option maxRecDepth 100000 in
set_option maxHeartbeats 1000000 in
theorem take_neg (g : Nat) (k : Int) (w : World) (hk : k < 0) :
    Calls Try.prog 25 #[.pointer (some ⟨g, 0, none⟩), .int .i64 k] w fun e w' => e = .returned (.tuple #[.slice none 0 0, .int .i64 6]) ∧ w' = w := by
  have hd : decide (k < 0) = true := decide_eq_true hk
  go_enter Try.func25, Try.ntmps25
  go_wp2
  exact bodyPost_ret (v := .tuple #[.slice none 0 0, .int .i64 6]) (by simp [results, Try.results25, go_sem]) rfl ⟨rfl, rfl⟩
set_option maxRecDepth 100000 in
set_option maxHeartbeats 1000000 in
theorem take_many (g pb n : Nat) (t : Nat → Bool) (B : Nat → Nat → Nat) (k : Int) (w : World) (h : Arn w g pb n t B) (h0 : 0 ≤ k) (hk : ((lst n t false).length : Int) < k) :
    Calls Try.prog 25 #[.pointer (some ⟨g, 0, none⟩), .int .i64 k] w fun e w' => e = .returned (.tuple #[.slice none 0 0, .int .i64 8]) ∧ Below w.heap.size w w' := by
  have hd : decide (k < 0) = false := decide_eq_false (by omega)
  have H := hid h
  have HK := hid hk
  clear h hk h0
  go_enter Try.func25, Try.ntmps25
  go_upto_region 4 with (first | (go_at_call 48; refine (listed_any g pb n t B false _ H.out).mono ?_; rintro e w1 ⟨a, m, cap, rfl, O, hb⟩))
  have hl := O.len
  rw [ints_length, nats_length] at hl
  have hd2 : decide (k > (m : Int)) = true := decide_eq_true (by have := HK.out; omega)
  clear hl
  go_wp2
  exact bodyPost_ret (v := .tuple #[.slice none 0 0, .int .i64 8]) (by simp [results, Try.results25, go_sem]) rfl ⟨rfl, hb⟩
set_option maxRecDepth 100000 in
set_option maxHeartbeats 1000000 in
theorem take_ok (g pb n : Nat) (t : Nat → Bool) (B : Nat → Nat → Nat) (K : Nat) (w : World) (h : Arn w g pb n t B) (hk : K ≤ (lst n t false).length) :
    Calls Try.prog 25 #[.pointer (some ⟨g, 0, none⟩), .int .i64 (K : Int)] w fun e w' => ∃ a, e = .returned (.tuple #[.slice a K K, .int .i64 0]) ∧ Ans w' w.heap.size a K K (ints (nats ((lst n t false).take K))) ∧
      Arn w' g pb n (tk t ((lst n t false).take K)) B ∧ But (· = g) w w' := by
  have hd : decide ((K : Int) < 0) = false := decide_eq_false (by omega)
  have H := hid h
  have HK := hid hk
  have hgl := h.glt
  have hn := h.le
  have hK2 : K ≤ 256 := Nat.le_trans hk (Nat.le_trans (lst_length n t false) hn)
  clear h hk
  go_enter Try.func25, Try.ntmps25
  go_upto_region 4 with (first | (go_at_call 48; refine (listed_any g pb n t B false _ H.out).mono ?_; rintro e w1 ⟨a, m, cap, rfl, O, hb⟩))
  have hl := O.len
  rw [ints_length, nats_length] at hl
  have hKm : K ≤ m := by have := HK.out; omega
  have hd2 : decide ((K : Int) > (m : Int)) = false := decide_eq_false (by omega)
  have HL := hid hl
  have HO := hid O
  have HB := hid hb
  have hcap := O.read.cap_
  clear hl O hb
  cases a with
  | none =>
    obtain ⟨rfl, rfl⟩ := HO.out.read.none_ rfl
    obtain rfl : K = 0 := by omega
    have HZ : Hid (Arn w1 g pb n (tk t ((lst n t false).take 0)) B) := hid (by rw [List.take_zero, tk_nil]; exact H.out.later HB.out)
    simp only [Int.cast_ofNat_Int]
    go_wp2
    go_loopw [21] (fun k w' => k = .int .i64 0 ∧ w1 = w') (fun _ _ => 0)
    case atStart => exact ⟨rfl, rfl⟩
    case round =>
      obtain ⟨rfl, rfl⟩ := hrel
      go_wp2
      refine bodyPost_ret (v := .tuple #[.slice none 0 0, .int .i64 0]) (by simp [results, Try.results25, go_sem]) rfl ⟨none, rfl, ⟨?_, fun _ h => (by cases h), fun _ h => ?_, fun _ h => ?_⟩, HZ.out, But.of HB.out⟩
      · exact row_nil _
      · obtain ⟨_, h, _⟩ := h
        cases h
      · obtain ⟨_, h, _⟩ := h
        cases h
  | some x =>
    obtain ⟨gb, rfl, hgb⟩ : ∃ gb, x = ⟨gb, 0, none⟩ ∧ w.heap.size ≤ gb := by
      rcases HO.out.row.2 with ⟨h1, hn⟩ | ⟨gb, c, cur, hv, hgb, _⟩
      · simp at h1
      · simp only [Value.slice.injEq, Option.some.injEq] at hv
        exact ⟨gb, hv.1, hgb⟩
    go_upto_region 7 with fail
    go_loopw [21] (TakeRel w1 g pb n t B K) (fun k _ => K - (intOf k).toNat)
    case atStart => exact ⟨0, rfl, Nat.zero_le _, by rw [List.take_zero, tk_nil]; exact H.out.later HB.out, But.refl _ _⟩
    case round =>
      obtain ⟨i, rfl, hi, hA, hBt⟩ := hrel
      have HA := hid hA
      have HBt := hid hBt
      clear hA hBt
      by_cases hlt : i < K
      · have hd3 : decide ((i : Int) < (K : Int)) = true := decide_eq_true (by omega)
        have hil : i < (lst n t false).length := by have := HL.out; omega
        obtain ⟨q, hq⟩ : ∃ q, q = (lst n t false)[i] := ⟨_, rfl⟩
        have hqm : q < n ∧ t q = false := mem_lst.1 (by rw [hq]; exact List.getElem_mem _)
        have hqn := hqm.1
        have y : wr.cell? ⟨gb, i, none⟩ = some (.int .i64 (q : Int)) := by
          have := (HO.out.read.but HBt.out (fun k hk e => by obtain ⟨z, hz, rfl⟩ := hk; cases hz; simp only at e; omega)).cells _ rfl i _ (ints_nats_get _ i hil)
          rw [addr_add0] at this
          rw [hq]
          exact this
        have z := HA.out.mark q (by omega)
        have z1 := z.1
        have z2 := z.2
        have HN : Hid (Arn (wr.setCell ⟨g, 1 + q, none⟩ (.bool true)) g pb n (tk t ((lst n t false).take (i + 1))) B) := HA.out.mark_set hqn (fun j => by
          rw [List.take_add_one, List.getElem?_eq_getElem hil, ← hq]
          simp only [tk, Option.toList_some, List.mem_append, List.mem_singleton]
          by_cases e : j = q
          · simp [e]
          · simp [e]) (fun j b hj => H.out.zero j b (by simp [tk] at hj; exact hj.1))
        have HNB : Hid (But (· = g) w1 (wr.setCell ⟨g, 1 + q, none⟩ (.bool true))) := HBt.out.setCell (p := ⟨g, 1 + q, none⟩) (show g = g from rfl) _
        clear z hq hqm
        go_wp2
        exact ⟨⟨i + 1, rfl, by omega, HN.out, HNB.out⟩, by simp [intOf]; omega⟩
      · obtain rfl : i = K := by omega
        go_wp2
        have hO := HO.out.ans.but HBt.out (fun k hk e => by obtain ⟨z, hz, rfl⟩ := hk; cases hz; simp only at e; omega)
        have hr := hO.row.sub (m := i) (c := i) hKm (Nat.le_refl _) (fun h => by cases h)
        refine bodyPost_ret (v := .tuple #[.slice (some ⟨gb, 0, none⟩) i i, .int .i64 0]) (by simp [results, Try.results25, go_sem]) rfl ⟨_, rfl, ⟨?_, hO.soft, hO.ge, hO.lt⟩, HA.out, (But.of HB.out).trans HBt.out⟩
        simpa [ints, nats, List.map_take] using hr
end Go.Proofs.Ytejkbeeffllpfaa
