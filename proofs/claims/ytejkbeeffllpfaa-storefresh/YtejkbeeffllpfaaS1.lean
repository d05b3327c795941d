import Derived.Test.YtejkbeeffllpfaaR4
import Derived.Test.YtejkbeeffllpfaaR6
namespace Go.Proofs.Ytejkbeeffllpfaa
open Go.RowKit
set_option linter.unusedVariables false
set_option linter.unusedSimpArgs false

set_option maxRecDepth 100000 in
set_option maxHeartbeats 1000000 in
theorem rcreate_bad (base r room n : Nat) (nx : Int) (V : List (Int × List Nat)) (G : Int → Nat) (a : Option Addr) (cap : Nat) (col : Nat → Nat) (size E : Int) (w : World) (h : Rf w base r room n nx V G a cap col) (hE : mayV room n nx V size = E) (hn : E ≠ 0) :
    Calls Try.prog 36 #[.pointer (some ⟨r, 0, none⟩), .int .i64 size] w fun e w' => e = .returned (.tuple #[.int .i64 0, .int .i64 E]) ∧ Below w.heap.size w w' := by
  have H := hid h
  have HE := hid hE
  clear h hE
  go_enter Try.func36, Try.ntmps36
  go_wp2_with (first | (go_at_call 42; refine (rmay_any base r room n nx V G a cap col size _ H.out).mono ?_; rintro e w1 ⟨rfl, d, hw⟩; rw [HE.out]; obtain rfl := hw))
  exact bodyPost_ret (v := .tuple #[.int .i64 0, .int .i64 E]) (by simp [results, Try.results36, go_sem]) rfl ⟨rfl, below_drewN (Below.refl _ _) _⟩
/-- What is to be seen of the objects. -/
def vw (Os : List Ob) : List (Int × List Nat) := Os.map fun o => (o.id, o.data)
theorem vw_length (Os : List Ob) : (vw Os).length = Os.length := by simp [vw]
theorem vw_used (Os : List Ob) : usedV (vw Os) = usedN Os := by simp [usedV, usedN, vw, Function.comp_def]
theorem vw_at (Os : List Ob) (id : Int) : atV (vw Os) id = (at? Os id).map Ob.data := by
  unfold atV at? vw
  rw [List.find?_map]
  simp [Function.comp_def]
theorem vw_rdE (Os : List Ob) (id off k : Int) : rvE (vw Os) id off k = rdE Os id off k := by
  unfold rvE rdE
  rw [vw_at]
  cases at? Os id <;> rfl
theorem vw_rdL (Os : List Ob) (id off k : Int) : rvL (vw Os) id off k = rdL Os id off k := by
  unfold rvL rdL
  rw [vw_at]
  cases at? Os id <;> rfl
theorem vw_append (Os : List Ob) (o : Ob) : vw (Os ++ [o]) = vw Os ++ [(o.id, o.data)] := by simp [vw]
theorem vw_setO (Os : List Ob) (id : Int) (off : Nat) (D : List Nat) : vw (Os.map (setO id off D)) = (vw Os).map (setV id off D) := by
  unfold vw
  rw [List.map_map, List.map_map]
  refine List.map_congr_left fun o _ => ?_
  simp only [Function.comp, setO, setV]
  split <;> rfl
theorem vw_wrO (Os : List Ob) (id off : Int) (D : List Nat) : vw (wrO Os id off D) = wrV (vw Os) id off D := by
  unfold wrO wrV
  rw [vw_rdE]
  split
  · exact vw_setO _ _ _ _
  · rfl
theorem vw_next (Os : List Ob) (v : Int) : nxV (vw Os) v ↔ nxOk Os v := by
  unfold nxV nxOk vw
  simp only [List.mem_map]
  constructor
  · rintro ⟨h1, h2, h3⟩
    exact ⟨h1, h2, fun o ho => h3 _ ⟨o, ho, rfl⟩⟩
  · rintro ⟨h1, h2, h3⟩
    refine ⟨h1, h2, ?_⟩
    rintro p ⟨o, ho, rfl⟩
    exact h3 o ho
theorem vw_may {w : World} {z : Sid} {nx : Int} {Os : List Ob} (h : St w z nx Os) (size : Int) : mayV z.room z.n nx (vw Os) size = mayE z.room z.n nx Os size := by
  have hu := h.used
  unfold mayV mayE
  rw [vw_length, vw_used]
  by_cases h1 : size < 0 ∨ 4096 < size
  · rw [if_pos h1, if_pos h1]
  · rw [if_neg h1, if_neg h1]
    by_cases h2 : z.room ≤ Os.length ∨ 4611686018427387904 < nx
    · rw [if_pos h2, if_pos h2]
    · rw [if_neg h2, if_neg h2]
      by_cases h3 : z.n - usedN Os < needN size.toNat
      · rw [if_pos h3, if_pos (by omega)]
      · rw [if_neg h3, if_neg (by omega)]
theorem vw_none {Os : List Ob} {id : Int} : (∀ p ∈ vw Os, p.1 ≠ id) ↔ at? Os id = none := by
  unfold vw at?
  rw [List.find?_eq_none]
  simp
theorem vw_without {Os : List Ob} (hr : Os.Pairwise (fun a b => a.id < b.id)) {i : Nat} (hi : i < (vw Os).length) {id : Int} (e : (vw Os)[i].1 = id) : vw (without id Os) = (vw Os).take i ++ (vw Os).drop (i + 1) ∧ ∃ o, at? Os id = some o := by
  have hi2 : i < Os.length := by rwa [vw_length] at hi
  have e2 : Os[i].id = id := by rw [← e]; simp [vw]
  rw [← e2, without_at hr hi2]
  refine ⟨by simp [vw, List.map_take, List.map_drop], _, at_at hr hi2⟩
theorem vw_ids (Os : List Ob) : (vw Os).map Prod.fst = Os.map Ob.id := by simp [vw, Function.comp_def]
/-- Both stores. -/
structure Duo (w : World) (base : Nat) (z : Sid) (r : Nat) (nx : Int) (Os : List Ob) (G : Int → Nat) (a : Option Addr) (cap : Nat) (col : Nat → Nat) : Prop where
  s : St w z nx Os
  q : Rf w base r z.room z.n nx (vw Os) G a cap col
  ap : ∀ k, col k ≠ 0 → ¬ Zb z k ∧ ¬ Rb Os k
def Own2 (z : Sid) (Os : List Ob) (col : Nat → Nat) (k : Nat) : Prop := Zb z k ∨ Rb Os k ∨ col k ≠ 0
theorem Duo.but {S : Nat → Prop} {w w' : World} {base : Nat} {z : Sid} {r : Nat} {nx : Int} {Os : List Ob} {G : Int → Nat} {a : Option Addr} {cap : Nat} {col : Nat → Nat} (hb : But S w w') (h : Duo w base z r nx Os G a cap col) (hS : ∀ k, Own2 z Os col k → ¬ S k) : Duo w' base z r nx Os G a cap col :=
  ⟨h.s.but hb (fun k hk => hS k (.inl hk)) (fun k hk => hS k (.inr (.inl hk))), h.q.but hb (fun k hk => hS k (.inr (.inr hk))), h.ap⟩
theorem Duo.later {w w' : World} {base : Nat} {z : Sid} {r : Nat} {nx : Int} {Os : List Ob} {G : Int → Nat} {a : Option Addr} {cap : Nat} {col : Nat → Nat} (hb : Below w.heap.size w w') (h : Duo w base z r nx Os G a cap col) : Duo w' base z r nx Os G a cap col :=
  ⟨h.s.later hb, h.q.later hb, h.ap⟩
theorem Duo.lt {w : World} {base : Nat} {z : Sid} {r : Nat} {nx : Int} {Os : List Ob} {G : Int → Nat} {a : Option Addr} {cap : Nat} {col : Nat → Nat} (h : Duo w base z r nx Os G a cap col) : ∀ k, Own2 z Os col k → k < w.heap.size := by
  rintro k (hk | hk | hk)
  · exact h.s.zlt k hk
  · exact h.s.rlt k hk
  · exact h.q.lt k hk
/-- A pair within its blocks. -/
def Pr (w : World) (base : Nat) (z : Sid) (r : Nat) (M : Nat → Prop) : Prop := ∃ nx Os G a cap col, Duo w base z r nx Os G a cap col ∧ (∀ k, Own2 z Os col k → M k) ∧ ∀ k, M k → base ≤ k ∧ k < w.heap.size
theorem Pr.but {S : Nat → Prop} {w w' : World} {base : Nat} {z : Sid} {r : Nat} {M : Nat → Prop} (hb : But S w w') (h : Pr w base z r M) (hS : ∀ k, M k → ¬ S k) : Pr w' base z r M := by
  obtain ⟨nx, Os, G, a, cap, col, hd, h1, h2⟩ := h
  exact ⟨nx, Os, G, a, cap, col, hd.but hb (fun k hk => hS k (h1 k hk)), h1, fun k hk => ⟨(h2 k hk).1, Nat.lt_of_lt_of_le (h2 k hk).2 hb.size⟩⟩
theorem Pr.later {w w' : World} {base : Nat} {z : Sid} {r : Nat} {M : Nat → Prop} (hb : Below w.heap.size w w') (h : Pr w base z r M) : Pr w' base z r M := h.but (S := fun _ => False) (But.of hb) (fun _ _ h => h)
/-- What a call leaves of a pair. -/
def Left (w : World) (base : Nat) (z : Sid) (r : Nat) (M : Nat → Prop) (w' : World) : Prop := ∃ M', Pr w' base z r M' ∧ (∀ k, M' k → M k ∨ w.heap.size ≤ k) ∧ But M w w'
theorem left_of {w w' : World} {base : Nat} {z : Sid} {r : Nat} {M : Nat → Prop} {nx nx' : Int} {Os Os' : List Ob} {G G' : Int → Nat} {a a' : Option Addr} {cap cap' : Nat} {col col' : Nat → Nat} (h : Duo w base z r nx Os G a cap col) (hM : ∀ k, Own2 z Os col k → M k) (hMb : ∀ k, M k → base ≤ k ∧ k < w.heap.size)
    (h' : Duo w' base z r nx' Os' G' a' cap' col') (hn : ∀ k, Own2 z Os' col' k → Own2 z Os col k ∨ w.heap.size ≤ k) (hb : But (Own2 z Os col) w w') : Left w base z r M w' := by
  have hbs := h.q.hb
  refine ⟨fun k => M k ∨ (w.heap.size ≤ k ∧ k < w'.heap.size), ⟨nx', Os', G', a', cap', col', h', fun k hk => ?_, fun k hk => ?_⟩, fun k hk => ?_, hb.mono hM⟩
  · rcases hn k hk with h1 | h1
    · exact .inl (hM k h1)
    · exact .inr ⟨h1, h'.lt k hk⟩
  · rcases hk with h1 | h1
    · exact ⟨(hMb k h1).1, Nat.lt_of_lt_of_le (hMb k h1).2 hb.size⟩
    · exact ⟨by omega, h1.2⟩
  · rcases hk with h1 | h1
    · exact .inl h1
    · exact .inr h1.1
/-- A call, as it came in. -/
structure Opx where
  kd : Int
  wh : Int
  id : Int
  of : Int
  nn : Int
  da : Option Addr
  md : Nat
  cd : Nat
  D : List Nat
def opxCells (o : Opx) : Array Value := #[.int .i64 o.kd, .int .i64 o.wh, .int .i64 o.id, .int .i64 o.of, .int .i64 o.nn, .slice o.da o.md o.cd]
structure OpxIn (w : World) (o : Opx) : Prop where
  rd : Row w o.da o.md o.cd (u8s o.D)
  small : ∀ x ∈ o.D, x < 256
  hd : o.md + 300 ≤ 140737488355328
  hid : i64ok o.id
  hof : i64ok o.of
  hnn : i64ok o.nn
theorem OpxIn.later {w w' : World} {o : Opx} (hb : Below w.heap.size w w') (h : OpxIn w o) : OpxIn w' o := ⟨h.rd.later hb, h.small, h.hd, h.hid, h.hof, h.hnn⟩
theorem rb_append {Os : List Ob} {o : Ob} {k : Nat} (h : Rb (Os ++ [o]) k) : Rb Os k ∨ Blk o.adr k := by
  obtain ⟨p, hp, hk⟩ := h
  rcases List.mem_append.1 hp with h1 | h1
  · exact .inl ⟨p, h1, hk⟩
  · simp only [List.mem_singleton] at h1
    subst h1
    exact .inr hk
end Go.Proofs.Ytejkbeeffllpfaa
