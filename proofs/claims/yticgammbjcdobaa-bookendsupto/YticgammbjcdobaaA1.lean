import Derived.Test.YticgammbjcdobaaRows
import Derived.WalkKit
import Derived.WalkSpells
import Derived.WalkLawsBesides
import Derived.Deep.RegionHeld3
import Derived.Deep.QuietTactic
import Derived.BigQuiet
import Derived.Maps.AppendAt
import Derived.Laws.AppendOwnNone
import Derived.Laws.OwnMore
import Derived.Laws.CopyRow
namespace Go.Proofs.Yticgammbjcdobaa
open Go.RowKit
theorem ret_int {k : IntKind} {a b : Int} (h : a = b) : Ending.returned (.int k a) = .returned (.int k b) := by rw [h]
theorem ret_bool {a b : Bool} (h : a = b) : Ending.returned (.bool a) = .returned (.bool b) := by rw [h]
theorem below1 (w : World) (o : Obj) : Below w.heap.size w (w.alloc o) := (Below.refl _ _).alloc (Nat.le_refl _) _
theorem below2 (w : World) (o p : Obj) : Below w.heap.size w ((w.alloc o).alloc p) := (below1 _ _).alloc (by simp) _
theorem keep_call {C : Prop} {K : Nat} {w0 W w1 : World} (hb : Below W.heap.size W w1) (hK : K ≤ w0.heap.size) (hS : C ∧ Below K w0 W) : Below K w0 w1 :=
  hS.2.trans (hb.mono (Nat.le_trans hK hS.2.size))
theorem below_call {w W w1 : World} (h : Below w.heap.size w W) (hb : Below W.heap.size W w1) : Below w.heap.size w w1 := h.trans (hb.mono h.size)
theorem below_grown {w w1 w2 : World} {row : Option Nat} (h : Below w.heap.size w w1) (hgr : w1.grownBy w2 row) (hg : ∀ k, row = some k → w.heap.size ≤ k) : Below w.heap.size w w2 :=
  h.grown hgr h.size hg
theorem addr_add0 (g i : Nat) : (⟨g, 0, none⟩ : Addr).add i = ⟨g, i, none⟩ := by unfold Addr.add; split <;> simp_all
theorem addr_add (g o i : Nat) : (⟨g, o, none⟩ : Addr).add i = ⟨g, o + i, none⟩ := by unfold Addr.add; split <;> simp_all
theorem info5 : (Try.prog.info? 5).map (fun i => (i.zero, i.size, i.bytes)) = some (some (.int .u8 0), 1, 1) := by kernel_rfl
def Lies (w : World) (p : Addr) (v : Value) : Prop := w.cell? p = some v ∧ w.frozen? p = false
theorem Lies.later {W w1 : World} {p : Addr} {v : Value} (hb : Below W.heap.size W w1) (h : Lies W p v) : Lies w1 p v :=
  ⟨cell_later hb h.1, by rw [hb.frozen (World.block_lt_of_cell? _ _ h.1)]; exact h.2⟩
theorem Lies.alloc {w : World} {p : Addr} {v : Value} (h : Lies w p v) (o : Obj) : Lies (w.alloc o) p v := h.later (below1 _ _)
def u8s (l : List Nat) : List Value := l.map fun (n : Nat) => Value.int .u8 (n : Int)
theorem u8s_length (l : List Nat) : (u8s l).length = l.length := by simp [u8s]
theorem u8s_append (l m : List Nat) : u8s (l ++ m) = u8s l ++ u8s m := by simp [u8s]
theorem u8s_get (l : List Nat) (i : Nat) (h : i < l.length) : (u8s l)[i]? = some (.int .u8 ((l[i] : Nat) : Int)) := by simp [u8s, h]
theorem u8s_one (l : List Nat) : ∀ u ∈ u8s l, u.oneCell' = true := by
  intro u hu
  simp only [u8s, List.mem_map] at hu
  obtain ⟨n, _, rfl⟩ := hu
  rfl
structure Row (w : World) (a : Option Addr) (n cap : Nat) (L : List Nat) : Prop where
  len : L.length = n
  cap_ : n ≤ cap
  none_ : a = none → n = 0 ∧ cap = 0
  cells : ∀ x, a = some x → ∀ j u, (u8s L)[j]? = some u → w.cell? (x.add j) = some u
  small : ∀ x ∈ L, x < 256
theorem Row.later {W w1 : World} {a : Option Addr} {n cap : Nat} {L : List Nat} (hb : Below W.heap.size W w1) (h : Row W a n cap L) : Row w1 a n cap L :=
  ⟨h.len, h.cap_, h.none_, fun x hx j u hu => cell_later hb (h.cells x hx j u hu), h.small⟩
theorem Row.alloc {w : World} {a : Option Addr} {n cap : Nat} {L : List Nat} (h : Row w a n cap L) (o : Obj) : Row (w.alloc o) a n cap L := h.later (below1 _ _)
theorem row_nil (w : World) : Row w none 0 0 [] := ⟨rfl, Nat.le_refl _, fun _ => ⟨rfl, rfl⟩, fun _ h => (by cases h), fun _ h => (by cases h)⟩
theorem Row.plain {w : World} {a : Option Addr} {n cap : Nat} {L : List Nat} (h : Row w a n cap L) (hl : 0 < n) : ∃ b o, a = some ⟨b, o, none⟩ ∧ ∀ i (hi : i < L.length), w.cell? ⟨b, o + i, none⟩ = some (.int .u8 ((L[i] : Nat) : Int)) := by
  cases a with
  | none => have := h.none_ rfl; omega
  | some x =>
    obtain ⟨b, o, spot⟩ := x
    have hlen := h.len
    have h0 := h.cells _ rfl 0 _ (u8s_get L 0 (by omega))
    have hs : spot = none := by simpa [Addr.add] using World.cell?_spot h0
    subst hs
    refine ⟨b, o, rfl, fun i hi => ?_⟩
    have := h.cells _ rfl i _ (u8s_get L i hi)
    rw [addr_add] at this
    exact this
theorem Row.at {w : World} {b o n cap : Nat} {L : List Nat} (hl : L.length = n) (hc : n ≤ cap) (hs : ∀ x ∈ L, x < 256) (h : ∀ i (hi : i < L.length), w.cell? ⟨b, o + i, none⟩ = some (.int .u8 ((L[i] : Nat) : Int))) : Row w (some ⟨b, o, none⟩) n cap L := by
  refine ⟨hl, hc, fun h => (by cases h), fun x hx j u hu => ?_, hs⟩
  cases hx
  rw [addr_add]
  have hj : j < L.length := by have := (List.getElem?_eq_some_iff.1 hu).1; rwa [u8s_length] at this
  rw [u8s_get L j hj] at hu
  cases hu
  exact h j hj
structure Own (w : World) (base : Nat) (a : Option Addr) (n cap : Nat) (L : List Nat) : Prop where
  row : w.ownsRow base 5 1 (.slice a n cap) n (u8s L)
  small : ∀ x ∈ L, x < 256
theorem Own.len {w : World} {base : Nat} {a : Option Addr} {n cap : Nat} {L : List Nat} (h : Own w base a n cap L) : L.length = n := by
  have := h.row.1
  rw [u8s_length, Nat.mul_one] at this
  exact this
theorem Own.read {w : World} {base : Nat} {a : Option Addr} {n cap : Nat} {L : List Nat} (h : Own w base a n cap L) : Row w a n cap L := by
  refine ⟨h.len, ?_, ?_, ?_, h.small⟩
  · rcases h.row.2 with ⟨h, hn⟩ | ⟨g, c, cur, hv, _, _, hc, _⟩
    · omega
    · simp only [Value.slice.injEq] at hv; omega
  · intro ha
    rcases h.row.2 with ⟨h, hn⟩ | ⟨g, c, cur, hv, _, _, hc, _⟩
    · simp only [Value.slice.injEq] at h; omega
    · subst ha; simp at hv
  · intro x hx j u hu
    rcases h.row.2 with ⟨h, hn⟩ | ⟨g, c, cur, hv, _, _, hc, _⟩
    · subst hx; simp at h
    · subst hx
      simp only [Value.slice.injEq, Option.some.injEq] at hv
      obtain ⟨rfl, _, rfl⟩ := hv
      exact h.row.cells (g := g) rfl j u hu
theorem own_later {W w1 : World} {base : Nat} {e : TypeId} {size : Nat} {v : Value} {n : Nat} {xs : List Value} (hb : Below W.heap.size W w1) (h : W.ownsRow base e size v n xs) : w1.ownsRow base e size v n xs := by
  refine ⟨h.1, ?_⟩
  rcases h.2 with h | ⟨g, cap, cur, hv, hg, hh, r⟩
  · exact .inl h
  · have hlt : g < W.heap.size := by
      rcases Nat.lt_or_ge g W.heap.size with h1 | h1
      · exact h1
      · rw [Array.getElem?_eq_none h1] at hh; cases hh
    exact .inr ⟨g, cap, cur, hv, hg, by rw [hb.block g hlt]; exact hh, r⟩
theorem own_mono {w : World} {b b' : Nat} {e : TypeId} {size : Nat} {v : Value} {n : Nat} {xs : List Value} (h : w.ownsRow b e size v n xs) (hb : b' ≤ b) : w.ownsRow b' e size v n xs := by
  refine ⟨h.1, ?_⟩
  rcases h.2 with h | ⟨g, cap, cur, hv, hg, r⟩
  · exact .inl h
  · exact .inr ⟨g, cap, cur, hv, Nat.le_trans hb hg, r⟩
theorem own_block {w : World} {base : Nat} {e : TypeId} {size : Nat} {v : Value} {n : Nat} {xs : List Value} (h : w.ownsRow base e size v n xs) : ∀ k, v.ownBlock = some k → base ≤ k := by
  intro k hk
  rcases h.2 with ⟨rfl, _⟩ | ⟨g, cap, cur, rfl, hg, _⟩
  · cases hk
  · simp [Value.ownBlock] at hk; omega
theorem Own.later {W w1 : World} {base : Nat} {a : Option Addr} {n cap : Nat} {L : List Nat} (hb : Below W.heap.size W w1) (h : Own W base a n cap L) : Own w1 base a n cap L := ⟨own_later hb h.row, h.small⟩
theorem Own.alloc {w : World} {base : Nat} {a : Option Addr} {n cap : Nat} {L : List Nat} (h : Own w base a n cap L) (o : Obj) : Own (w.alloc o) base a n cap L := h.later (below1 _ _)
theorem Own.mono {w : World} {base b : Nat} {a : Option Addr} {n cap : Nat} {L : List Nat} (h : Own w base a n cap L) (hb : b ≤ base) : Own w b a n cap L := ⟨own_mono h.row hb, h.small⟩
theorem Own.nil (w : World) (base : Nat) : Own w base .none 0 0 [] := ⟨⟨rfl, .inl ⟨rfl, rfl⟩⟩, fun _ h => (by cases h)⟩
structure But (S : Nat → Prop) (w w' : World) : Prop where
  os : w'.os = w.os
  tape : w'.tape = w.tape
  output : w'.output = w.output
  size : w.heap.size ≤ w'.heap.size
  block : ∀ k, k < w.heap.size → ¬ S k → w'.heap[k]? = w.heap[k]?
theorem But.refl (S : Nat → Prop) (w : World) : But S w w := ⟨rfl, rfl, rfl, Nat.le_refl _, fun _ _ _ => rfl⟩
theorem But.trans {S : Nat → Prop} {a b c : World} (h : But S a b) (k : But S b c) : But S a c :=
  ⟨k.os.trans h.os, k.tape.trans h.tape, k.output.trans h.output, Nat.le_trans h.size k.size, fun i hi hn => (k.block i (Nat.lt_of_lt_of_le hi h.size) hn).trans (h.block i hi hn)⟩
theorem But.of {S : Nat → Prop} {w w' : World} (h : Below w.heap.size w w') : But S w w' := ⟨h.os, h.tape, h.output, h.size, fun k hk _ => h.block k hk⟩
theorem But.call {S : Nat → Prop} {w W w' : World} (h : But S w W) (hb : Below W.heap.size W w') : But S w w' := h.trans (But.of hb)
theorem But.below {S : Nat → Prop} {w W w' : World} (h : Below w.heap.size w W) (hb : But S W w') (hS : ∀ k, S k → w.heap.size ≤ k) : Below w.heap.size w w' :=
  ⟨hb.os.trans h.os, hb.tape.trans h.tape, hb.output.trans h.output, Nat.le_trans h.size hb.size, fun k hk => (hb.block k (Nat.lt_of_lt_of_le hk h.size) (fun hs => by have := hS k hs; omega)).trans (h.block k hk)⟩
theorem But.mono {S T : Nat → Prop} {w w' : World} (h : But S w w') (hS : ∀ k, S k → T k) : But T w w' := ⟨h.os, h.tape, h.output, h.size, fun k hk hn => h.block k hk (fun hs => hn (hS k hs))⟩
theorem But.setCell {S : Nat → Prop} {a w : World} (h : But S a w) {p : Addr} (hp : S p.block) (u : Value) : But S a (w.setCell p u) :=
  h.trans ⟨rfl, rfl, rfl, by simp [World.setCell], fun k hk hn => Below.heap_setCell _ _ _ _ (fun e => hn (e ▸ hp))⟩
theorem But.alloc {S : Nat → Prop} {a w : World} (h : But S a w) (o : Obj) : But S a (w.alloc o) := h.call (below1 _ _)
theorem Lies.but {S : Nat → Prop} {w w' : World} {p : Addr} {v : Value} (hb : But S w w') (h : Lies w p v) (hn : ¬ S p.block) : Lies w' p v := by
  have hk := hb.block p.block (World.block_lt_of_cell? _ _ h.1) hn
  exact ⟨by rw [World.cell?_of_block hk]; exact h.1, by rw [World.frozen?_of_block hk]; exact h.2⟩
theorem Lies.put {w : World} {p : Addr} {v u : Value} (h : Lies w p v) : Lies (w.setCell p u) p u :=
  ⟨World.cell?_setCell_same _ _ _ h.1, by have := h.2; simpa using this⟩
def Blk (a : Option Addr) (k : Nat) : Prop := ∃ x, a = some x ∧ x.block = k
theorem Blk.of {a : Option Addr} {n cap k : Nat} : (Value.slice a n cap).ownBlock = some k ↔ Blk a k := by
  cases a with
  | none => simp [Value.ownBlock, Blk]
  | some x => simp [Value.ownBlock, Blk]
structure Gr (a a' : Option Addr) (w w' : World) : Prop where
  but : But (Blk a) w w'
  on : ∀ k, Blk a' k → Blk a k ∨ w.heap.size ≤ k
theorem Gr.refl (a : Option Addr) (w : World) : Gr a a w w := ⟨But.refl _ _, fun _ h => .inl h⟩
theorem But.comp {S T : Nat → Prop} {a b c : World} (h : But S a b) (k : But T b c) (hT : ∀ i, T i → S i ∨ a.heap.size ≤ i) : But S a c :=
  ⟨k.os.trans h.os, k.tape.trans h.tape, k.output.trans h.output, Nat.le_trans h.size k.size, fun i hi hn => (k.block i (Nat.lt_of_lt_of_le hi h.size) (fun ht => by rcases hT i ht with h1 | h1; exact hn h1; omega)).trans (h.block i hi hn)⟩
theorem Gr.trans {a a' a'' : Option Addr} {w w' w'' : World} (h : Gr a a' w w') (k : Gr a' a'' w' w'') : Gr a a'' w w'' :=
  ⟨h.but.comp k.but h.on, fun i hi => by
    rcases k.on i hi with h1 | h1
    · exact h.on i h1
    · exact .inr (Nat.le_trans h.but.size h1)⟩
theorem Gr.pre {a a' : Option Addr} {w W w' : World} (h : Below w.heap.size w W) (k : Gr a a' W w') : Gr a a' w w' :=
  ⟨(But.of h).trans k.but, fun i hi => by
    rcases k.on i hi with h1 | h1
    · exact .inl h1
    · exact .inr (Nat.le_trans h.size h1)⟩
theorem Own.blk {w : World} {base : Nat} {a : Option Addr} {n cap : Nat} {L : List Nat} (h : Own w base a n cap L) : ∀ k, Blk a k → base ≤ k := fun k hk => own_block h.row k (Blk.of.2 hk)
theorem Gr.below {w w' : World} {base : Nat} {a a' : Option Addr} {n cap : Nat} {L : List Nat} (h : Own w base a n cap L) (g : Gr a a' w w') (hb : base ≤ w.heap.size) : Below base w w' :=
  ⟨g.but.os, g.but.tape, g.but.output, g.but.size, fun k hk => g.but.block k (by omega) (fun hs => by have := h.blk k hs; omega)⟩
theorem append_any {w : World} {base : Nat} {a : Option Addr} {n cap : Nat} {L : List Nat} {b : Option Addr} {m c : Nat} {M : List Nat} (h : Own w base a n cap L) (k : Row w b m c M) (hb : base ≤ w.heap.size) (hr : n + m ≤ 140737488355328) :
    ∃ a' cap' w', (Builtin.append_ #[33, 33] 33 #[.slice a n cap, .slice b m c]).run Try.prog w = .ok (.slice a' (n + m) cap') w' ∧ Own w' base a' (n + m) cap' (L ++ M) ∧ Gr a a' w w' := by
  obtain ⟨i, hi, hz0, hz1, hz2⟩ := info_parts info5
  have hsm : ∀ x ∈ L ++ M, x < 256 := fun x hx => by
    rcases List.mem_append.1 hx with h1 | h1
    · exact h.small x h1
    · exact k.small x h1
  cases b with
  | none =>
    obtain ⟨rfl, rfl⟩ := k.none_ rfl
    have hM : M = [] := List.eq_nil_of_length_eq_zero k.len
    subst hM
    have hr := run_append_owned_none (P := Try.prog) (w := w) base 33 33 5 i 1 Try.underlying33 hi _ n _ h.row
    exact ⟨a, cap, w, hr, ⟨by simpa using h.row, hsm⟩, Gr.refl _ _⟩
  | some x =>
    obtain ⟨v', w', hr, h2, h3, _, h5⟩ := run_append_own_at (P := Try.prog) w base 33 33 5 i _ 1 1 Try.underlying33 hi hz0 hz1 hz2 rfl (by decide) _ n _ h.row x m c (u8s M) (by rw [u8s_length, k.len, Nat.mul_one]) (k.cells x rfl) (u8s_one M) (by unfold maxLen; omega) (by omega) hb
    obtain ⟨a', cap', rfl⟩ : ∃ a' cap', v' = .slice a' (n + m) cap' := by
      rcases h2.2 with ⟨h, h'⟩ | ⟨g', cap', _, h, _⟩
      · exact ⟨.none, 0, by rw [h, h']⟩
      · exact ⟨_, cap', h⟩
    refine ⟨a', cap', w', hr, ⟨by rw [u8s_append]; exact h2, hsm⟩, ⟨h3.os, h3.tape, h3.output, h3.size, fun j hj hn => h3.block j hj (fun e => hn (Blk.of.1 e.symm))⟩, fun j hj => ?_⟩
    rcases h5 with h5 | h5
    · rw [Blk.of.2 hj] at h5
      exact .inl (Blk.of.1 h5.symm)
    · rw [Blk.of.2 hj] at h5
      right
      simp at h5
      omega
theorem wpList_append_known {P : Program} {w : World} {ops : Array Oper} {rest : List Oper} {o : Oper} {a : Act} {Q : Exit → Act → World → Prop} (hgd : o.guard = none) (s x : Operand) (t : TypeId)
    (ho : o.op = .call { callee := .builtin .append, args := #[s, x], argTypes := #[t, t] }) (vs vx : Value) (hs : a.eval s = vs) (hx : a.eval x = vx) (v' : Value) (w' : World)
    (hr : (Builtin.append_ #[t, t] o.type #[vs, vx]).run P w = .ok v' w') (h : wpList P ops Q rest (a.put o.dst v') w') : wpList P ops Q (o :: rest) a w := by
  refine wpList_plain hgd fun K hK => ?_
  unfold Oper.wp execOp
  simp only [ho, resolve, invoke, builtin, Sem.run_bind, Sem.run_pure, Result.andThen_ok, List.map_toArray, List.map_cons, List.map_nil, hs, hx, hr]
  exact hK _ _ h
theorem Row.one (w : World) (b : Nat) (hb : b < 256) : Row (w.alloc (Obj.cells #[Value.int .u8 (b : Int)] 5)) (some ⟨w.heap.size, 0, .none⟩) 1 1 [b] :=
  Row.at (L := [b]) rfl (Nat.le_refl _) (fun x hx => by simp at hx; omega) (fun i hi => by
    have : i = 0 := by simp at hi; omega
    subst this
    simp [go_sem])
end Go.Proofs.Yticgammbjcdobaa
