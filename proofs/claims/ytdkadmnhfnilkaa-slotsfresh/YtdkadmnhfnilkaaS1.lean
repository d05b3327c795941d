import Derived.Test.YtdkadmnhfnilkaaB2
namespace Go.Proofs.Ytdkadmnhfnilkaa
open Go.RowKit
set_option linter.unusedVariables false

/-- A step of a script. -/
structure Sp where
  sec : Bool
  kd : Int
  c : Cp
  v : Int
/-- Its six cells. -/
structure Sb (w : World) (b o : Nat) (s : Sp) : Prop where
  c0 : w.cell? ⟨b, o, none⟩ = some (.bool s.sec)
  c1 : w.cell? ⟨b, o + 1, none⟩ = some (.int .i64 s.kd)
  c2 : w.cell? ⟨b, o + 2, none⟩ = some (.int .i64 s.c.1)
  c3 : w.cell? ⟨b, o + 3, none⟩ = some (.int .u64 (s.c.2.1 : Int))
  c4 : w.cell? ⟨b, o + 4, none⟩ = some (.int .u64 (s.c.2.2 : Int))
  c5 : w.cell? ⟨b, o + 5, none⟩ = some (.int .i64 s.v)
theorem Sb.but {S : Nat → Prop} {w w' : World} {b o : Nat} {s : Sp} (hb : But S w w') (h : Sb w b o s) (hn : ¬ S b) : Sb w' b o s :=
  ⟨cell_but hb h.c0 hn, cell_but hb h.c1 hn, cell_but hb h.c2 hn, cell_but hb h.c3 hn, cell_but hb h.c4 hn, cell_but hb h.c5 hn⟩
theorem Sb.later {w w' : World} {b o : Nat} {s : Sp} (hb : Below w.heap.size w w') (h : Sb w b o s) : Sb w' b o s := h.but (S := fun _ => False) (But.of hb) (fun h => h)
theorem Sb.new (w : World) (s : Sp) : Sb (w.alloc (Obj.cells #[.bool s.sec, .int .i64 s.kd, .int .i64 s.c.1, .int .u64 (s.c.2.1 : Int), .int .u64 (s.c.2.2 : Int), .int .i64 s.v] 36)) w.heap.size 0 s :=
  ⟨by simp [go_sem], by simp [go_sem], by simp [go_sem], by simp [go_sem], by simp [go_sem], by simp [go_sem]⟩
/-- A script of n steps. -/
structure Ss (w : World) (a : Option Addr) (n : Nat) (f : Nat → Sp) : Prop where
  at_ : 0 < n → ∃ b o, a = some ⟨b, o, none⟩ ∧ ∀ i, i < n → Sb w b (o + i * 6) (f i)
  ok : ∀ i, i < n → (f i).c.2.1 < B64 ∧ (f i).c.2.2 < B64
theorem Ss.later {w w' : World} {a : Option Addr} {n : Nat} {f : Nat → Sp} (hb : Below w.heap.size w w') (h : Ss w a n f) : Ss w' a n f :=
  ⟨fun h0 => by
    obtain ⟨b, o, e, hc⟩ := h.at_ h0
    exact ⟨b, o, e, fun i hi => (hc i hi).later hb⟩, h.ok⟩
/-- Is it there? -/
theorem there_or {V : Type} (E : List (Cp × V)) (c : Cp) : (∃ v, (c, v) ∈ E) ∨ c ∉ E.map Prod.fst := by
  by_cases h : c ∈ E.map Prod.fst
  · obtain ⟨y, hy, rfl⟩ := List.mem_map.1 h
    exact .inl ⟨y.2, hy⟩
  · exact .inr h
theorem key_mem {V : Type} {E : List (Cp × V)} {c : Cp} {v : V} (h : (c, v) ∈ E) : c ∈ E.map Prod.fst := List.mem_map.2 ⟨_, h, rfl⟩
/-- Without one pair. -/
theorem drop_one {V : Type} {E : List (Cp × V)} {y : Cp × V} (h : y ∈ E) : ∃ E' : List (Cp × V), E.Perm (y :: E') := by
  obtain ⟨l, r, rfl⟩ := List.append_of_mem h
  exact ⟨l ++ r, List.perm_middle⟩
end Go.Proofs.Ytdkadmnhfnilkaa
