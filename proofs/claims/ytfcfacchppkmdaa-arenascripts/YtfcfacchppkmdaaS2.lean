import Derived.Test.YtfcfacchppkmdaaS1
import Derived.Test.YtfcfacchppkmdaaF1
namespace Go.Proofs.Ytfcfacchppkmdaa
open Go.RowKit
set_option linter.unusedVariables false
set_option linter.unusedSimpArgs false

/-- A call of the script. -/
structure Ops where
  kd : Int
  pg : Int
  of : Int
  nn : Int
  la : Option Addr
  ml : Nat
  cl : Nat
  l : List Int
  da : Option Addr
  md : Nat
  cd : Nat
  D : List Nat
/-- It reads so, apart from both arenas. -/
structure OpOk (w : World) (g pb r rb : Nat) (o : Ops) : Prop where
  rl : Row w o.la o.ml o.cl (ints o.l)
  rd : Row w o.da o.md o.cd (u8s o.D)
  small : ∀ x ∈ o.D, x < 256
  hl : (o.ml + 80) * 8 ≤ 140737488355328
  hd : o.md + 120 ≤ 140737488355328
  al : 0 < o.ml → ∀ k, Blk o.la k → ¬ Ours g pb r rb k
  ad : 0 < o.md → ∀ k, Blk o.da k → ¬ Ours g pb r rb k
  ho : -9223372036854775808 ≤ o.of ∧ o.of < 9223372036854775808
theorem Row.but0 {S : Nat → Prop} {w w' : World} {a : Option Addr} {n cap : Nat} {L : List Value} (hb : But S w w') (h : Row w a n cap L) (hn : 0 < n → ∀ k, Blk a k → ¬ S k) : Row w' a n cap L := by
  by_cases h0 : 0 < n
  · exact h.but hb (hn h0)
  · have hL : L = [] := List.eq_nil_of_length_eq_zero (by rw [h.len]; omega)
    subst hL
    exact ⟨h.len, h.cap_, h.none_, fun _ _ j u hu => by simp at hu, h.one⟩
theorem OpOk.later {w w' : World} {g pb r rb : Nat} {o : Ops} (hb : Below w.heap.size w w') (h : OpOk w g pb r rb o) : OpOk w' g pb r rb o :=
  ⟨h.rl.later hb, h.rd.later hb, h.small, h.hl, h.hd, h.al, h.ad, h.ho⟩
/-- Its box. -/
structure Bx (w : World) (b : Nat) (o : Ops) : Prop where
  c0 : w.cell? ⟨b, 0, none⟩ = some (.int .i64 o.kd)
  c1 : w.cell? ⟨b, 1, none⟩ = some (.int .i64 o.pg)
  c2 : w.cell? ⟨b, 2, none⟩ = some (.int .i64 o.of)
  c3 : w.cell? ⟨b, 3, none⟩ = some (.int .i64 o.nn)
  c4 : w.cell? ⟨b, 4, none⟩ = some (.slice o.la o.ml o.cl)
  c5 : w.cell? ⟨b, 5, none⟩ = some (.slice o.da o.md o.cd)
theorem Bx.but {S : Nat → Prop} {w w' : World} {b : Nat} {o : Ops} (hb : But S w w') (h : Bx w b o) (hn : ¬ S b) : Bx w' b o :=
  ⟨cell_but hb h.c0 hn, cell_but hb h.c1 hn, cell_but hb h.c2 hn, cell_but hb h.c3 hn, cell_but hb h.c4 hn, cell_but hb h.c5 hn⟩
theorem Bx.later {w w' : World} {b : Nat} {o : Ops} (hb : Below w.heap.size w w') (h : Bx w b o) : Bx w' b o := h.but (S := fun _ => False) (But.of hb) (fun h => h)
def opCells (o : Ops) : Array Value := #[.int .i64 o.kd, .int .i64 o.pg, .int .i64 o.of, .int .i64 o.nn, .slice o.la o.ml o.cl, .slice o.da o.md o.cd]
theorem Bx.new (w : World) (o : Ops) : Bx (w.alloc (.cells (opCells o) 51)) w.heap.size o :=
  ⟨by simp [go_sem, opCells], by simp [go_sem, opCells], by simp [go_sem, opCells], by simp [go_sem, opCells], by simp [go_sem, opCells], by simp [go_sem, opCells]⟩
theorem blk_lt {w : World} {a : Option Addr} {n c : Nat} {L : List Value} (h : Row w a n c L) (hn : 0 < n) : ∀ k, Blk a k → k < w.heap.size := by
  obtain ⟨b, o, rfl, hc⟩ := h.plain hn
  intro k hk
  rw [blk_at hk]
  have := hc 0 _ (List.getElem?_eq_getElem (by rw [h.len]; exact hn))
  exact World.block_lt_of_cell? _ _ this
/-- What is written over, place by place. -/
def Spot (w : World) (b o n : Nat) : Prop := ∀ j, j < n → ∃ v, Lies w ⟨b, o + j, none⟩ v
theorem Spot.put {w : World} {b o n k : Nat} {u : Value} (h : Spot w b o n) (hk : k < n) : Spot (w.setCell ⟨b, o + k, none⟩ u) b o n := fun j hj => by
  by_cases e : j = k
  · subst e
    obtain ⟨v, hv⟩ := h j hj
    exact ⟨u, hv.put⟩
  · obtain ⟨v, hv⟩ := h j hj
    exact ⟨v, hv.other (fun e2 => e (by have := congrArg Addr.off e2; simp at this; omega))⟩
theorem Ans.spot {w : World} {base b o n cap : Nat} {L : List Value} (h : Ans w base (some ⟨b, o, none⟩) n cap L) : Spot w b o n := fun j hj => by
  have hc := h.row.cells _ rfl j _ (List.getElem?_eq_getElem (by rw [h.row.len]; exact hj))
  rw [addr_add] at hc
  exact ⟨_, hc, h.soft _ rfl _⟩
def OvRel (w : World) (b o n : Nat) (v : Value) (w' : World) : Prop := ∃ i : Nat, v = .int .i64 (i : Int) ∧ i ≤ n ∧ Spot w' b o n ∧ But (· = b) w w'
/-- What a step leaves. -/
def Left (g pb r rb n : Nat) (w w' : World) : Prop := (∃ t B C, Duo w' g pb r rb n t B C) ∧ But (Ours g pb r rb) w w'
set_option maxRecDepth 100000 in
set_option maxHeartbeats 1000000 in
theorem step_0 (g pb r rb n : Nat) (t : Nat → Bool) (B C : Nat → Nat → Nat) (o : Ops) (w : World) (h : Duo w g pb r rb n t B C) (hk : o.kd ≠ 1 ∧ o.kd ≠ 2 ∧ o.kd ≠ 3 ∧ o.kd ≠ 4) :
    Calls Try.prog 20 #[.pointer (some ⟨g, 0, none⟩), .pointer (some ⟨r, 0, none⟩), .agg (opCells o)] w fun e w' => e = .returned (.bool true) ∧ Left g pb r rb n w w' := by
  obtain ⟨X, hX⟩ : ∃ X, X = opCells o := ⟨_, rfl⟩
  have hbx := Bx.new w o
  rw [← hX] at hbx ⊢
  have x0 := hbx.c0
  obtain ⟨h1, h2, h3, h4⟩ := hk
  have k1 : (o.kd == 1) = false := by simp [h1]
  have k2 : (o.kd == 2) = false := by simp [h2]
  have k3 : (o.kd == 3) = false := by simp [h3]
  have k4 : (o.kd == 4) = false := by simp [h4]
  have H := hid h
  clear h hX hbx h1 h2 h3 h4
  go_enter Try.func20, Try.ntmps20
  go_wp2
  go_ret
  exact ⟨rfl, ⟨_, _, _, H.out.later (below1 _ _)⟩, But.of (below1 _ _)⟩
end Go.Proofs.Ytfcfacchppkmdaa
