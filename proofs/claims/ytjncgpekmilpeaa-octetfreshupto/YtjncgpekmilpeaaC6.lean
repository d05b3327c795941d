import Derived.Test.YtjncgpekmilpeaaC5
namespace Go.Proofs.Ytjncgpekmilpeaa
open Go.RowKit
set_option linter.unusedVariables false

/-- A word's box. -/
def Box (w : World) (k : Nat) (a b : Int) : Prop := w.cell? ⟨k, 0, none⟩ = some (.int .u64 a) ∧ w.cell? ⟨k, 1, none⟩ = some (.int .u64 b)
theorem Box.new (w : World) (a b : Int) : Box (w.alloc (.cells #[.int .u64 a, .int .u64 b] 25)) w.heap.size a b := ⟨by simp [go_sem], by simp [go_sem]⟩
theorem Box.but {S : Nat → Prop} {w w' : World} {k : Nat} {a b : Int} (hb : But S w w') (h : Box w k a b) (hn : ¬ S k) : Box w' k a b := by
  have hk := hb.block k (World.block_lt_of_cell? _ _ h.1) hn
  exact ⟨by rw [World.cell?_of_block (w := w) hk]; exact h.1, by rw [World.cell?_of_block (w := w) hk]; exact h.2⟩
theorem Own.drew {w : World} {base : Nat} {a : Option Addr} {n cap : Nat} {L : List Nat} (h : Own w base a n cap L) : Own w.drew base a n cap L := h.later (Below.refl _ _).drew
theorem Own.lt {w : World} {base : Nat} {a : Option Addr} {n cap : Nat} {L : List Nat} (h : Own w base a n cap L) : ∀ k, Blk a k → k < w.heap.size := by
  intro k ⟨x, hx, hk⟩
  subst hx
  rcases h.row.2 with ⟨h, _⟩ | ⟨g', c, cur, hv, _, hh, _⟩
  · simp at h
  · simp only [Value.slice.injEq, Option.some.injEq] at hv
    obtain ⟨rfl, _⟩ := hv
    subst hk
    exact (Array.getElem?_eq_some_iff.1 hh).1
theorem grown_apart {a a' : Option Addr} {w w' : World} {k : Nat} (g : Gr a a' w w') (hk : k < w.heap.size) (hn : ¬ Blk a k) : ¬ Blk a' k := fun h => by
  rcases g.on k h with h1 | h1
  · exact hn h1
  · omega

set_option maxRecDepth 100000 in
set_option maxHeartbeats 1000000 in
theorem layWord_any (a : Option Addr) (n cap : Nat) (L : List Nat) (hi lo : Nat) (w : World) (base : Nat) (hhi : hi < 18446744073709551616) (hlo : lo < 18446744073709551616) (h : Own w base a n cap L) (hb : base ≤ w.heap.size) (hr : n + 16 ≤ 140737488355328) :
    Calls Try.prog 39 #[.slice a n cap, .agg #[.int .u64 (hi : Int), .int .u64 (lo : Int)]] w fun e w' => ∃ a' cap', e = .returned (.slice a' (n + 16) cap') ∧ Own w' base a' (n + 16) cap' (L ++ leL lo 8 ++ leL hi 8) ∧ Gr a a' w w' := by
  have HR : Hid (n + 16 ≤ 140737488355328) := hr
  have hnb : ¬ Blk a w.heap.size := fun hk => by have := h.lt _ hk; omega
  have H0 : Hid (Own (w.alloc (Obj.cells #[Value.int IntKind.u64 (hi : Int), Value.int IntKind.u64 (lo : Int)] 25)).drew base a n cap L) := (h.alloc _).drew
  have X0 : Hid (Box (w.alloc (Obj.cells #[Value.int IntKind.u64 (hi : Int), Value.int IntKind.u64 (lo : Int)] 25)).drew w.heap.size hi lo) := Box.new w hi lo
  clear h hr
  go_enter Try.func39, Try.ntmps39
  go_wp2
  go_region_held3 (fun w' => (w'.cell? ⟨w.heap.size, 0, none⟩ = some (.int .u64 (hi : Int)) ∧ w'.cell? ⟨w.heap.size, 1, none⟩ = some (.int .u64 (lo : Int)))) (first | exact X0.out | exact X1 | exact X2) (first | (go_at_call 38; refine (lay64 _ _ _ _ hi _ base hhi hown1 (by simp at hs1; omega) (by have := HR.out; omega)).mono ?_; rintro e w2 ⟨a2, c2, rfl, hown2, hg2⟩; have X2 := X1.but hg2.but (grown_apart hg1 (by simp) hnb)) | (go_at_call 38; refine (lay64 a n cap L lo _ base hlo H0.out (by simp; omega) (by have := HR.out; omega)).mono ?_; rintro e w1 ⟨a1, c1, rfl, hown1, hg1⟩; have X1 := X0.out.but hg1.but hnb; have hs1 := hg1.but.size))
  go_wp2
  go_ret
  refine ⟨a2, c2, rfl, hown2, ?_⟩
  exact (hg1.trans hg2).pre (((below1 _ _)).drew)
set_option maxRecDepth 100000 in
set_option maxHeartbeats 1000000 in
theorem putWord_any (a : Option Addr) (n cap : Nat) (L : List Nat) (hi lo : Nat) (w : World) (hhi : hi < 18446744073709551616) (hlo : lo < 18446744073709551616) (h : Row w a n cap L) (hr : n + 16 ≤ 140737488355328) :
    Calls Try.prog 16 #[.slice a n cap, .agg #[.int .u64 (hi : Int), .int .u64 (lo : Int)]] w fun e w' => ∃ a' cap', e = .returned (.slice a' (n + 16) cap') ∧ Own w' w.heap.size a' (n + 16) cap' (L ++ leL lo 8 ++ leL hi 8) ∧ Below w.heap.size w w' := by
  have HR : Hid (n + 16 ≤ 140737488355328) := hr
  have H0 : Hid (Row (w.alloc (Obj.cells #[Value.int IntKind.u64 (hi : Int), Value.int IntKind.u64 (lo : Int)] 25)).drew a n cap L) := h.later ((below1 _ _).drew)
  have X0 : Hid (Box (w.alloc (Obj.cells #[Value.int IntKind.u64 (hi : Int), Value.int IntKind.u64 (lo : Int)] 25)).drew w.heap.size hi lo) := Box.new w hi lo
  clear h hr
  go_enter Try.func16, Try.ntmps16
  go_wp2
  go_region_held3 (fun w' => (w'.cell? ⟨w.heap.size, 0, none⟩ = some (.int .u64 (hi : Int)) ∧ w'.cell? ⟨w.heap.size, 1, none⟩ = some (.int .u64 (lo : Int)))) (first | exact X0.out | exact X1 | exact X2) (first | (go_at_call 39; refine (layWord_any _ _ _ _ hi lo _ _ hhi hlo hown1 hb1.size HR.out).mono ?_; rintro e w2 ⟨a2, c2, rfl, hown2, hg2⟩; have X2 := X1.but hg2.but (fun hk => by have := hown1.blk _ hk; simp at this; omega)) | (go_at_call 37; refine (room_any a n cap 16 L _ H0.out HR.out).mono ?_; rintro e w1 ⟨g1, rfl, hown1, hb1⟩; have X1 := X0.out.but (S := fun _ => False) (But.of hb1) (fun h => h)))
  go_wp2
  go_ret
  refine ⟨a2, c2, rfl, hown2.mono (by simp), ?_⟩
  exact (below_call ((below1 _ _).drew) hb1).trans ((hg2.below hown1 hb1.size).mono (by simp))

/-- A capability's box. -/
def CBox (w : World) (k : Nat) (o a b : Int) : Prop := w.cell? ⟨k, 0, none⟩ = some (.int .i64 o) ∧ w.cell? ⟨k, 1, none⟩ = some (.int .u64 a) ∧ w.cell? ⟨k, 2, none⟩ = some (.int .u64 b)
theorem CBox.new (w : World) (o a b : Int) : CBox (w.alloc (.cells #[.int .i64 o, .int .u64 a, .int .u64 b] 27)) w.heap.size o a b := ⟨by simp [go_sem], by simp [go_sem], by simp [go_sem]⟩
theorem CBox.but {S : Nat → Prop} {w w' : World} {k : Nat} {o a b : Int} (hb : But S w w') (h : CBox w k o a b) (hn : ¬ S k) : CBox w' k o a b := by
  have hk := hb.block k (World.block_lt_of_cell? _ _ h.1) hn
  exact ⟨by rw [World.cell?_of_block (w := w) hk]; exact h.1, by rw [World.cell?_of_block (w := w) hk]; exact h.2.1, by rw [World.cell?_of_block (w := w) hk]; exact h.2.2⟩
theorem CBox.later {w w' : World} {k : Nat} {o a b : Int} (hb : Below w.heap.size w w') (h : CBox w k o a b) : CBox w' k o a b := h.but (S := fun _ => False) (But.of hb) (fun h => h)
theorem Box.later {w w' : World} {k : Nat} {a b : Int} (hb : Below w.heap.size w w') (h : Box w k a b) : Box w' k a b := h.but (S := fun _ => False) (But.of hb) (fun h => h)

def pcE (o : Int) : Int := if o < 0 ∨ 4611686018427387904 < o then 5 else 0
def pcL (L : List Nat) (o : Int) (hi lo : Nat) : List Nat := if pcE o = 0 then L ++ leL o.toNat 8 ++ leL lo 8 ++ leL hi 8 else []
set_option maxRecDepth 100000 in
set_option maxHeartbeats 1000000 in
theorem putCap_any (a : Option Addr) (n cap : Nat) (L : List Nat) (o : Int) (hi lo : Nat) (w : World) (hhi : hi < 18446744073709551616) (hlo : lo < 18446744073709551616) (h : Row w a n cap L) (hr : n + 24 ≤ 140737488355328) :
    Calls Try.prog 10 #[.slice a n cap, .agg #[.int .i64 o, .int .u64 (hi : Int), .int .u64 (lo : Int)]] w fun e w' => ∃ a' n' cap', e = .returned (.tuple #[.slice a' n' cap', .int .i64 (pcE o)]) ∧ Own w' w.heap.size a' n' cap' (pcL L o hi lo) ∧ Below w.heap.size w w' := by
  by_cases h0 : o < 0
  · have e1 : pcE o = 5 := by unfold pcE; rw [if_pos (.inl h0)]
    have e2 : pcL L o hi lo = [] := by unfold pcL; rw [e1, if_neg (by omega)]
    rw [e1, e2]
    have hd : decide (o < 0) = true := decide_eq_true h0
    go_enter Try.func10, Try.ntmps10
    go_wp2
    exact bodyPost_ret (v := .tuple #[.slice none 0 0, .int .i64 5]) (by simp [results, Try.results10, go_sem]) rfl ⟨none, 0, 0, rfl, Own.nil _ _, below1 _ _⟩
  by_cases h1 : 4611686018427387904 < o
  · have e1 : pcE o = 5 := by unfold pcE; rw [if_pos (.inr h1)]
    have e2 : pcL L o hi lo = [] := by unfold pcL; rw [e1, if_neg (by omega)]
    rw [e1, e2]
    have hd : decide (o < 0) = false := decide_eq_false h0
    have hd1 : decide (4611686018427387904 < o) = true := decide_eq_true h1
    go_enter Try.func10, Try.ntmps10
    go_wp2
    exact bodyPost_ret (v := .tuple #[.slice none 0 0, .int .i64 5]) (by simp [results, Try.results10, go_sem]) rfl ⟨none, 0, 0, rfl, Own.nil _ _, below1 _ _⟩
  have e1 : pcE o = 0 := by unfold pcE; rw [if_neg (by omega)]
  have e2 : pcL L o hi lo = L ++ leL o.toNat 8 ++ leL lo 8 ++ leL hi 8 := by unfold pcL; rw [if_pos e1]
  rw [e1, e2]
  obtain ⟨m, rfl⟩ : ∃ m : Nat, o = (m : Int) := ⟨o.toNat, by omega⟩
  rw [Int.toNat_natCast]
  have hm : m < 18446744073709551616 := by omega
  have ew : IntKind.u64.wrap (m : Int) = (m : Int) := by rw [IntKind.wrap_u64]; omega
  have hd : decide ((m : Int) < 0) = false := decide_eq_false h0
  have hd1 : decide (4611686018427387904 < (m : Int)) = false := decide_eq_false h1
  have HR : Hid (n + 24 ≤ 140737488355328) := hr
  have H0 : Hid (Row (w.alloc (Obj.cells #[.int .i64 (m : Int), Value.int IntKind.u64 (hi : Int), Value.int IntKind.u64 (lo : Int)] 27)).drew a n cap L) := h.later ((below1 _ _).drew)
  have X0 : Hid (CBox (w.alloc (Obj.cells #[.int .i64 (m : Int), Value.int IntKind.u64 (hi : Int), Value.int IntKind.u64 (lo : Int)] 27)).drew w.heap.size m hi lo) := CBox.new w m hi lo
  clear h hr h0 h1 e1 e2
  go_enter Try.func10, Try.ntmps10
  go_upto_region 3 with fail
  go_region_held3 (fun w' => (w'.cell? ⟨w.heap.size, 0, none⟩ = some (.int .i64 (m : Int)) ∧ w'.cell? ⟨w.heap.size, 1, none⟩ = some (.int .u64 (hi : Int)) ∧ w'.cell? ⟨w.heap.size, 2, none⟩ = some (.int .u64 (lo : Int)))) (first | exact X0.out | exact X1 | exact X2) (first | (go_at_call 38; refine (lay64 _ _ _ _ m _ _ hm hown1 hb1.size (by have := HR.out; omega)).mono ?_; rintro e w2 ⟨a2, c2, rfl, hown2, hg2⟩; have X2 := X1.but hg2.but (fun hk => by have := hown1.blk _ hk; simp at this; omega)) | (go_at_call 37; refine (room_any a n cap 24 L _ H0.out HR.out).mono ?_; rintro e w1 ⟨g1, rfl, hown1, hb1⟩; have X1 := X0.out.but (S := fun _ => False) (But.of hb1) (fun h => h)))
  have x1 := X2.2.1
  have x2 := X2.2.2
  have hs2 := Nat.le_trans hb1.size hg2.but.size
  go_wp2_with (first | (go_at_call 39; refine (layWord_any _ _ _ _ hi lo _ _ hhi hlo hown2 hs2 (by have := HR.out; omega)).mono ?_; rintro e w3 ⟨a3, c3, rfl, hown3, hg3⟩))
  refine bodyPost_ret (v := .tuple #[.slice a3 (n + 8 + 16) c3, .int .i64 0]) (by simp [results, Try.results10, go_sem]) rfl ⟨a3, _, c3, rfl, hown3.mono (by simp), ?_⟩
  exact (below_call ((below1 _ _).drew) hb1).trans ((((hg2.trans hg3).below hown1 hb1.size)).mono (by simp))
end Go.Proofs.Ytjncgpekmilpeaa
