import Derived.Test.YtgihdchgdejkhaaGreatDoorMO
import Derived.Test.YtgihdchgdejkhaaGreatDoorHC
namespace Go.Proofs.YtgihdchgdejkhaaGreatDoor.H.I
open Go.RowKit
set_option linter.unusedVariables false

abbrev Q := Pl Int
/-- A place in memory. -/
structure Pa (w : World) (b o : Nat) (p : Q) : Prop where
  c0 : w.cell? ⟨b, o, none⟩ = some (.int .i64 p.k)
  c1 : w.cell? ⟨b, o + 1, none⟩ = some (.int .i64 p.c.1)
  c2 : w.cell? ⟨b, o + 2, none⟩ = some (.int .u64 (p.c.2.1 : Int))
  c3 : w.cell? ⟨b, o + 3, none⟩ = some (.int .u64 (p.c.2.2 : Int))
  c4 : w.cell? ⟨b, o + 4, none⟩ = some (.int .i64 p.v)
theorem Pa.but {S : Nat → Prop} {w w' : World} {b o : Nat} {p : Q} (hb : But S w w') (h : Pa w b o p) (hn : ¬ S b) : Pa w' b o p :=
  ⟨cell_but hb h.c0 hn, cell_but hb h.c1 hn, cell_but hb h.c2 hn, cell_but hb h.c3 hn, cell_but hb h.c4 hn⟩
/-- The table in memory: its places, knob, most, live, spare. -/
structure Tm (w : World) (g gb : Nat) (kn mo : Nat) (li sp : Int) (N : Nat) (L : List Q) : Prop where
  a0 : w.cell? ⟨g, 0, none⟩ = some (.slice (some ⟨gb, 0, none⟩) N N)
  a1 : w.cell? ⟨g, 1, none⟩ = some (.int .i64 (kn : Int))
  a2 : w.cell? ⟨g, 2, none⟩ = some (.int .i64 (mo : Int))
  a3 : Lies w ⟨g, 3, none⟩ (.int .i64 li)
  a4 : Lies w ⟨g, 4, none⟩ (.int .i64 sp)
  fr : ∀ j, w.frozen? ⟨gb, j, none⟩ = false
  at_ : ∀ (i : Nat) (p : Q), L[i]? = some p → Pa w gb (i * 5) p
  ne : g ≠ gb
  len : L.length = N
  pos : 0 < N
  big : N ≤ 1024
  ok : ∀ (i : Nat) (p : Q), L[i]? = some p → p.c.2.1 < B64 ∧ p.c.2.2 < B64
theorem Tm.lt {w : World} {g gb kn mo : Nat} {li sp : Int} {N : Nat} {L : List Q} (h : Tm w g gb kn mo li sp N L) : g < w.heap.size := World.block_lt_of_cell? _ _ h.a1
theorem Tm.lt2 {w : World} {g gb kn mo : Nat} {li sp : Int} {N : Nat} {L : List Q} (h : Tm w g gb kn mo li sp N L) : gb < w.heap.size := by
  obtain ⟨p, hp⟩ := get_some (L := L) (i := 0) (by rw [h.len]; exact h.pos)
  exact World.block_lt_of_cell? _ _ (h.at_ 0 p hp).c0
theorem Tm.but {S : Nat → Prop} {w w' : World} {g gb kn mo : Nat} {li sp : Int} {N : Nat} {L : List Q} (hb : But S w w') (h : Tm w g gb kn mo li sp N L) (h1 : ¬ S g) (h2 : ¬ S gb) : Tm w' g gb kn mo li sp N L :=
  ⟨cell_but hb h.a0 h1, cell_but hb h.a1 h1, cell_but hb h.a2 h1, h.a3.but hb h1, h.a4.but hb h1, fun j => by rw [World.frozen?_of_block (w := w) (hb.block gb h.lt2 h2)]; exact h.fr j, fun i p hp => (h.at_ i p hp).but hb h2, h.ne, h.len, h.pos, h.big, h.ok⟩
theorem Tm.later {w w' : World} {g gb kn mo : Nat} {li sp : Int} {N : Nat} {L : List Q} (hb : Below w.heap.size w w') (h : Tm w g gb kn mo li sp N L) : Tm w' g gb kn mo li sp N L := h.but (S := fun _ => False) (But.of hb) (fun h => h) (fun h => h)
theorem Tm.alloc {w : World} {g gb kn mo : Nat} {li sp : Int} {N : Nat} {L : List Q} (h : Tm w g gb kn mo li sp N L) (o : Obj) : Tm (w.alloc o) g gb kn mo li sp N L := h.later (below1 _ _)
/-- A capability as a value. -/
def hm (kn N : Nat) (c : Cp) : Nat := lowN (hashN (objN c.1) c.2.1 c.2.2) (kn : Int) % N
theorem hm_lt {kn N : Nat} (c : Cp) (h : 0 < N) : hm kn N c < N := Nat.mod_lt _ h

theorem cast_mod (x N : Nat) (hx : x < B64) (h : 0 < N) (hN : N ≤ 1024) : IntKind.i64.wrap ((x : Int) % (N : Int)) = ((x % N : Nat) : Int) := by
  have h2 : x % N < N := Nat.mod_lt _ h
  rw [← Int.natCast_emod, IntKind.wrap_i64]
  omega
set_option maxRecDepth 100000 in
set_option maxHeartbeats 1000000 in
theorem next_any {w : World} {g gb kn mo : Nat} {li sp : Int} {N : Nat} {L : List Q} (h : Tm w g gb kn mo li sp N L) (at_ : Nat) (ha : at_ < N) :
    Calls Tryz.prog 133 #[.pointer (some ⟨g, 0, none⟩), .int .i64 (at_ : Int)] w fun e w' => e = .returned (.int .i64 (((at_ + 1) % N : Nat) : Int)) ∧ w' = w := by
  have x := h.a0
  have hp := h.pos
  have hb := h.big
  have HE : Hid (((at_ + 1) % N : Nat) = ((((at_ + 1 : Nat) : Int).tmod (N : Int)))) := by unfold Hid; rw [Int.tmod_eq_emod_of_nonneg (by omega)]; rfl
  clear h
  go_enter Tryz.func133, Tryz.ntmps133
  go_wp2
  go_ret
  exact ⟨ret_int (by rw [HE.out]; rfl), rfl⟩
set_option maxRecDepth 100000 in
set_option maxHeartbeats 1000000 in
theorem rare_any {w : World} {g gb kn mo : Nat} {li : Int} {sp : Nat} {N : Nat} {L : List Q} (h : Tm w g gb kn mo li sp N L) (hs : sp ≤ 1024) :
    Calls Tryz.prog 134 #[.pointer (some ⟨g, 0, none⟩)] w fun e w' => e = .returned (.bool (decide (4 * sp < N))) ∧ Below w.heap.size w w' := by
  have x := h.a0
  have y := h.a4.1
  have hb := h.big
  clear h
  go_enter Tryz.func134, Tryz.ntmps134
  go_wp2
  go_quiet (fail)
  go_wp2
  go_ret
  exact ⟨ret_bool (by simp; omega), below_drewN (Below.refl _ _) _⟩
set_option maxRecDepth 100000 in
set_option maxHeartbeats 1000000 in
theorem len_any {w : World} {g gb kn mo : Nat} {li sp : Int} {N : Nat} {L : List Q} (h : Tm w g gb kn mo li sp N L) :
    Calls Tryz.prog 112 #[.pointer (some ⟨g, 0, none⟩)] w fun e w' => e = .returned (.int .i64 li) ∧ w' = w := by
  have y := h.a3.1
  clear h
  go_enter Tryz.func112, Tryz.ntmps112
  go_wp2
  go_ret
  exact ⟨rfl, rfl⟩
set_option maxRecDepth 100000 in
set_option maxHeartbeats 1000000 in
theorem first_any {w : World} {g gb kn mo : Nat} {li sp : Int} {N : Nat} {L : List Q} (h : Tm w g gb kn mo li sp N L) (o : Int) (hi lo : Nat) (h1 : hi < B64) (h2 : lo < B64) :
    Calls Tryz.prog 132 #[.pointer (some ⟨g, 0, none⟩), .agg #[.int .i64 o, .int .u64 (hi : Int), .int .u64 (lo : Int)]] w fun e w' => e = .returned (.int .i64 (hm kn N (o, hi, lo) : Int)) ∧ Below w.heap.size w w' := by
  obtain ⟨w1, hw1⟩ : ∃ w1, w1 = w.alloc (Obj.cells #[.int .i64 o, .int .u64 (hi : Int), .int .u64 (lo : Int)] 36) := ⟨_, rfl⟩
  have hB1 : Below w.heap.size w w1 := by rw [hw1]; exact below1 _ _
  have hh := h.later hB1
  have hC : Hid (∀ U : World, Below w1.heap.size w1 U → (U.cell? ⟨w.heap.size, 0, none⟩ = some (.int .i64 o) ∧ U.cell? ⟨w.heap.size, 1, none⟩ = some (.int .u64 (hi : Int)) ∧ U.cell? ⟨w.heap.size, 2, none⟩ = some (.int .u64 (lo : Int)) ∧ U.cell? ⟨g, 0, none⟩ = some (.slice (some ⟨gb, 0, none⟩) N N) ∧ U.cell? ⟨g, 1, none⟩ = some (.int .i64 (kn : Int))) ∧ Below w1.heap.size w1 U) := fun U hU =>
    ⟨⟨cell_later hU (by rw [hw1]; simp [go_sem]), cell_later hU (by rw [hw1]; simp [go_sem]), cell_later hU (by rw [hw1]; simp [go_sem]), cell_later hU hh.a0, cell_later hU hh.a1⟩, hU⟩
  have hp := h.pos
  have hb := h.big
  have HX : Hid (lowN (hashN (objN o) hi lo) (kn : Int) < B64) := lowN_lt _ (hashN_lt _ _ _)
  have HM : Hid (hm kn N (o, hi, lo) = lowN (hashN (objN o) hi lo) (kn : Int) % N) := rfl
  have hH := fun W => hash_any o hi lo (kn : Int) W h1 h2
  generalize lowN (hashN (objN o) hi lo) (kn : Int) = x at HX HM hH
  have HR := hid (cast_mod x N HX.out hp hb)
  have hu : IntKind.u64.wrap (N : Int) = (N : Int) := by rw [IntKind.wrap_u64]; omega
  have hz : ¬ N = 0 := by omega
  clear h hh
  go_enter Tryz.func132, Tryz.ntmps132
  go_wp2
  rw [← hw1]
  have HB1 := hid hB1
  clear hw1 hB1
  go_region_held3 (fun U => (U.cell? ⟨w.heap.size, 0, none⟩ = some (.int .i64 o) ∧ U.cell? ⟨w.heap.size, 1, none⟩ = some (.int .u64 (hi : Int)) ∧ U.cell? ⟨w.heap.size, 2, none⟩ = some (.int .u64 (lo : Int)) ∧ U.cell? ⟨g, 0, none⟩ = some (.slice (some ⟨gb, 0, none⟩) N N) ∧ U.cell? ⟨g, 1, none⟩ = some (.int .i64 (kn : Int))) ∧ Below w1.heap.size w1 U) (first | exact hC.out _ (Below.refl _ _).drew | exact hC.out _ hb2.out) (first | (go_at_call 137; refine (hH _).mono ?_; rintro e w2 ⟨rfl, hb2'⟩; have hb2 := hid (below_call (Below.refl w1.heap.size w1).drew hb2')))
  go_wp2
  go_ret
  exact ⟨ret_int (by rw [HM.out]; exact HR.out), below_call HB1.out (And.right (by assumption))⟩
end Go.Proofs.YtgihdchgdejkhaaGreatDoor.H.I
