import Derived.Test.YtejkbeeffllpfaaKB
namespace Go.Proofs.Ytejkbeeffllpfaa
open Go.RowKit
set_option linter.unusedVariables false

/-- A store's blocks and bounds. -/
structure Sid where
  s : Nat
  g : Nat
  pb : Nat
  m : Nat
  n : Nat
  room : Nat
def St (w : World) (z : Sid) (nx : Int) (Os : List Ob) : Prop := ∃ t B, Sto w z.s z.g z.pb z.m z.n z.room nx t B Os
def Zb (z : Sid) (k : Nat) : Prop := Sb z.s z.g z.pb z.m k
def i64ok (x : Int) : Prop := -9223372036854775808 ≤ x ∧ x < 9223372036854775808
theorem St.but {S : Nat → Prop} {w w' : World} {z : Sid} {nx : Int} {Os : List Ob} (hb : But S w w') (h : St w z nx Os) (h1 : ∀ k, Zb z k → ¬ S k) (h2 : ∀ k, Rb Os k → ¬ S k) : St w' z nx Os := by
  obtain ⟨t, B, h⟩ := h
  exact ⟨t, B, h.but hb h1 h2⟩
theorem St.later {w w' : World} {z : Sid} {nx : Int} {Os : List Ob} (hb : Below w.heap.size w w') (h : St w z nx Os) : St w' z nx Os := by
  obtain ⟨t, B, h⟩ := h
  exact ⟨t, B, h.later hb⟩
theorem St.rlt {w : World} {z : Sid} {nx : Int} {Os : List Ob} (h : St w z nx Os) : ∀ k, Rb Os k → k < w.heap.size := by
  obtain ⟨t, B, h⟩ := h
  rintro k ⟨o, ho, hk⟩
  exact (h.off o ho k hk).2.2.2.2
theorem St.zlt {w : World} {z : Sid} {nx : Int} {Os : List Ob} (h : St w z nx Os) : ∀ k, Zb z k → k < w.heap.size := by
  obtain ⟨t, B, h⟩ := h
  rintro k (rfl | rfl | rfl | rfl)
  · exact World.block_lt_of_cell? _ _ h.c0.1
  · exact h.arn.glt
  · exact h.arn.lt
  · exact h.map.lt
theorem St.used {w : World} {z : Sid} {nx : Int} {Os : List Ob} (h : St w z nx Os) : usedN Os ≤ z.n ∧ z.n ≤ 256 := by
  obtain ⟨t, B, h⟩ := h
  have := h.count
  have := h.arn.le
  omega
theorem st_new (room n : Nat) (w : World) (h1 : 1 ≤ room ∧ room ≤ 64) (h2 : 1 ≤ n ∧ n ≤ 256) :
    Calls Try.prog 6 #[.int .i64 (room : Int), .int .i64 (n : Int)] w fun e w' => ∃ z : Sid, z.n = n ∧ z.room = room ∧ e = .returned (.tuple #[.pointer (some ⟨z.s, 0, none⟩), .int .i64 0]) ∧ St w' z 1 [] ∧ (∀ k, Zb z k → w.heap.size ≤ k ∧ k < w'.heap.size) ∧ Below w.heap.size w w' := by
  refine (snew_ok room n w h1 h2).mono ?_
  rintro e w' ⟨s, g, pb, m, rfl, hS, hk, hb⟩
  exact ⟨⟨s, g, pb, m, n, room⟩, rfl, rfl, rfl, ⟨_, _, hS⟩, hk, hb⟩
theorem st_free (z : Sid) (nx : Int) (Os : List Ob) (w : World) (h : St w z nx Os) :
    Calls Try.prog 9 #[.pointer (some ⟨z.s, 0, none⟩)] w fun e w' => e = .returned (.int .i64 ((z.n - usedN Os : Nat) : Int)) ∧ Below w.heap.size w w' := by
  obtain ⟨t, B, h⟩ := h
  exact sfree_any _ _ _ _ _ _ _ _ _ _ _ h
theorem st_next (z : Sid) (nx : Int) (Os : List Ob) (w : World) (h : St w z nx Os) :
    Calls Try.prog 23 #[.pointer (some ⟨z.s, 0, none⟩)] w fun e w' => e = .returned (.int .i64 nx) ∧ w' = w := by
  obtain ⟨t, B, h⟩ := h
  exact snext_any _ _ _ _ _ _ _ _ _ _ _ h
theorem st_may (z : Sid) (nx : Int) (Os : List Ob) (size : Int) (w : World) (h : St w z nx Os) :
    Calls Try.prog 24 #[.pointer (some ⟨z.s, 0, none⟩), .int .i64 size] w fun e w' => e = .returned (.int .i64 (mayE z.room z.n nx Os size)) ∧ Below w.heap.size w w' := by
  obtain ⟨t, B, h⟩ := h
  exact may_any _ _ _ _ _ _ _ _ _ _ _ _ h
theorem st_ids (z : Sid) (nx : Int) (Os : List Ob) (w : World) (h : St w z nx Os) :
    Calls Try.prog 14 #[.pointer (some ⟨z.s, 0, none⟩)] w fun e w' => ∃ a cap, e = .returned (.slice a Os.length cap) ∧ Own w' w.heap.size 3 a Os.length cap (ints (Os.map Ob.id)) ∧ Below w.heap.size w w' := by
  obtain ⟨t, B, h⟩ := h
  exact ids_any _ _ _ _ _ _ _ _ _ _ _ h
theorem st_size (z : Sid) (nx : Int) (Os : List Ob) (id : Int) (w : World) (h : St w z nx Os) (hi : i64ok id) :
    Calls Try.prog 45 #[.pointer (some ⟨z.s, 0, none⟩), .int .i64 id] w fun e w' => e = .returned (match at? Os id with | some o => .tuple #[.int .i64 (o.data.length : Int), .bool true] | none => .tuple #[.int .i64 0, .bool false]) ∧ Below w.heap.size w w' := by
  obtain ⟨t, B, h⟩ := h
  cases ho : at? Os id with
  | none => exact size_none _ _ _ _ _ _ _ _ _ _ _ _ h hi ho
  | some o => exact size_some _ _ _ _ _ _ _ _ _ _ _ _ _ h hi ho
/-- A new object. -/
theorem st_create_ok (z : Sid) (nx : Int) (Os : List Ob) (k : Nat) (w : World) (h : St w z nx Os) (hE : mayE z.room z.n nx Os (k : Int) = 0) :
    Calls Try.prog 8 #[.pointer (some ⟨z.s, 0, none⟩), .int .i64 (k : Int)] w fun e w' => ∃ P a, e = .returned (.tuple #[.int .i64 nx, .int .i64 0]) ∧ (∀ j, Blk a j → w.heap.size ≤ j ∧ j < w'.heap.size) ∧ St w' z (nx + 1) (Os ++ [⟨nx, List.replicate k 0, P, a⟩]) ∧ But (Zb z) w w' := by
  obtain ⟨t, B, h⟩ := h
  refine (create_ok _ _ _ _ _ _ _ _ _ _ k w h hE).mono ?_
  rintro e w' ⟨a, t', rfl, hb, hS, hB⟩
  exact ⟨_, a, rfl, hb, ⟨t', B, hS⟩, hB⟩
theorem st_create_bad (z : Sid) (nx : Int) (Os : List Ob) (size E : Int) (w : World) (h : St w z nx Os) (hE : mayE z.room z.n nx Os size = E) (hn : E ≠ 0) :
    Calls Try.prog 8 #[.pointer (some ⟨z.s, 0, none⟩), .int .i64 size] w fun e w' => e = .returned (.tuple #[.int .i64 0, .int .i64 E]) ∧ Below w.heap.size w w' := by
  obtain ⟨t, B, h⟩ := h
  exact create_bad _ _ _ _ _ _ _ _ _ _ size E w h hE hn
theorem st_destroy_ok (z : Sid) (nx : Int) (Os : List Ob) (id : Int) (o : Ob) (w : World) (h : St w z nx Os) (hi : i64ok id) (ho : at? Os id = some o) :
    Calls Try.prog 13 #[.pointer (some ⟨z.s, 0, none⟩), .int .i64 id] w fun e w' => e = .returned (.int .i64 0) ∧ St w' z nx (without id Os) ∧ But (Zb z) w w' := by
  obtain ⟨t, B, h⟩ := h
  refine (destroy_ok _ _ _ _ _ _ _ _ _ _ id o w h hi ho).mono ?_
  rintro e w' ⟨t', B', rfl, hS, hB⟩
  exact ⟨rfl, ⟨t', B', hS⟩, hB⟩
theorem st_destroy_none (z : Sid) (nx : Int) (Os : List Ob) (id : Int) (w : World) (h : St w z nx Os) (hi : i64ok id) (ho : at? Os id = none) :
    Calls Try.prog 13 #[.pointer (some ⟨z.s, 0, none⟩), .int .i64 id] w fun e w' => e = .returned (.int .i64 20) ∧ Below w.heap.size w w' := by
  obtain ⟨t, B, h⟩ := h
  exact destroy_none _ _ _ _ _ _ _ _ _ _ id w h hi ho
/-- What a read answers. -/
def rdE (Os : List Ob) (id off k : Int) : Int := match at? Os id with
  | none => 20
  | some o => if 0 ≤ off ∧ 0 ≤ k ∧ k ≤ 1024 ∧ off + k ≤ (o.data.length : Int) then 0 else 5
def rdL (Os : List Ob) (id off k : Int) : List Nat := match at? Os id with
  | none => []
  | some o => if 0 ≤ off ∧ 0 ≤ k ∧ k ≤ 1024 ∧ off + k ≤ (o.data.length : Int) then (o.data.drop off.toNat).take k.toNat else []
theorem rdL_small {w : World} {z : Sid} {nx : Int} {Os : List Ob} (h : St w z nx Os) (id off k : Int) : ∀ x ∈ rdL Os id off k, x < 256 := by
  obtain ⟨t, B, h⟩ := h
  intro x hx
  unfold rdL at hx
  cases ho : at? Os id with
  | none => rw [ho] at hx; simp at hx
  | some o =>
    rw [ho] at hx
    simp only at hx
    split at hx
    · exact h.small (at_mem ho).1 x (List.mem_of_mem_drop (List.mem_of_mem_take hx))
    · cases hx
theorem st_read (z : Sid) (nx : Int) (Os : List Ob) (id off k : Int) (w : World) (h : St w z nx Os) (hi : i64ok id) :
    Calls Try.prog 10 #[.pointer (some ⟨z.s, 0, none⟩), .int .i64 id, .int .i64 off, .int .i64 k] w fun e w' => ∃ a cap, e = .returned (.tuple #[.slice a (rdL Os id off k).length cap, .int .i64 (rdE Os id off k)]) ∧ Own w' w.heap.size 5 a (rdL Os id off k).length cap (u8s (rdL Os id off k)) ∧ Below w.heap.size w w' := by
  obtain ⟨t, B, h⟩ := h
  cases ho : at? Os id with
  | none =>
    have e1 : rdL Os id off k = [] := by simp [rdL, ho]
    have e2 : rdE Os id off k = 20 := by simp [rdE, ho]
    rw [e1, e2]
    refine (sread_none _ _ _ _ _ _ _ _ _ _ id off k w h hi ho).mono ?_
    rintro e w' ⟨rfl, hb⟩
    exact ⟨none, 0, rfl, Own.nil _ _ _, hb⟩
  | some o =>
    by_cases hr : rdOk o off k
    · have hr2 : 0 ≤ off ∧ 0 ≤ k ∧ k ≤ 1024 ∧ off + k ≤ (o.data.length : Int) := hr
      have e1 : rdL Os id off k = (o.data.drop off.toNat).take k.toNat := by simp [rdL, ho, hr2]
      have e2 : rdE Os id off k = 0 := by simp [rdE, ho, hr2]
      obtain ⟨off', rfl⟩ : ∃ q : Nat, off = (q : Int) := ⟨off.toNat, by omega⟩
      obtain ⟨k', rfl⟩ : ∃ q : Nat, k = (q : Int) := ⟨k.toNat, by omega⟩
      have e3 : ((o.data.drop off').take k').length = k' := by rw [List.length_take, List.length_drop]; omega
      rw [e1, e2, Int.toNat_natCast, Int.toNat_natCast, e3]
      refine (sread_ok _ _ _ _ _ _ _ _ _ _ id off' k' o w h hi ho (by omega) (by omega)).mono ?_
      rintro e w' ⟨a, cap, rfl, hO, hb⟩
      exact ⟨a, cap, rfl, hO, hb⟩
    · have hr2 : ¬ (0 ≤ off ∧ 0 ≤ k ∧ k ≤ 1024 ∧ off + k ≤ (o.data.length : Int)) := hr
      have e1 : rdL Os id off k = [] := by simp only [rdL, ho, if_neg hr2]
      have e2 : rdE Os id off k = 5 := by simp only [rdE, ho, if_neg hr2]
      rw [e1, e2]
      refine (sread_bad _ _ _ _ _ _ _ _ _ _ id off k o w h hi ho hr).mono ?_
      rintro e w' ⟨rfl, hb⟩
      exact ⟨none, 0, rfl, Own.nil _ _ _, hb⟩
/-- The objects behind a write. -/
def wrO (Os : List Ob) (id off : Int) (D : List Nat) : List Ob := if rdE Os id off (D.length : Int) = 0 then Os.map (setO id off.toNat D) else Os
theorem rb_setO {Os : List Ob} {id : Int} {off : Nat} {D : List Nat} {k : Nat} (h : Rb (Os.map (setO id off D)) k) : Rb Os k := by
  obtain ⟨o, ho, hk⟩ := h
  obtain ⟨p, hp, rfl⟩ := List.mem_map.1 ho
  rw [setO_adr] at hk
  exact ⟨p, hp, hk⟩
theorem rb_wrO {Os : List Ob} {id off : Int} {D : List Nat} {k : Nat} (h : Rb (wrO Os id off D) k) : Rb Os k := by
  unfold wrO at h
  split at h
  · exact rb_setO h
  · exact h
theorem rb_without {Os : List Ob} {id : Int} {k : Nat} (h : Rb (without id Os) k) : Rb Os k := by
  obtain ⟨o, ho, hk⟩ := h
  exact ⟨o, (mem_without.1 ho).1, hk⟩
theorem st_write (z : Sid) (nx : Int) (Os : List Ob) (id off : Int) (da : Option Addr) (k cd : Nat) (D : List Nat) (w : World) (h : St w z nx Os) (hi : i64ok id) (hR : Row w da k cd (u8s D)) (hD : ∀ x ∈ D, x < 256) (hap : 0 < k → ∀ j, Blk da j → ¬ Zb z j) :
    Calls Try.prog 12 #[.pointer (some ⟨z.s, 0, none⟩), .int .i64 id, .int .i64 off, .slice da k cd] w fun e w' => e = .returned (.int .i64 (rdE Os id off (k : Int))) ∧ St w' z nx (wrO Os id off D) ∧ But (Zb z) w w' := by
  obtain ⟨t, B, h⟩ := h
  have hk : D.length = k := by have := hR.len; rwa [u8s_length] at this
  unfold wrO
  rw [hk]
  cases ho : at? Os id with
  | none =>
    have e2 : rdE Os id off (k : Int) = 20 := by simp [rdE, ho]
    rw [e2, if_neg (by decide)]
    refine (swrite_none _ _ _ _ _ _ _ _ _ _ id off da k cd w h hi ho).mono ?_
    rintro e w' ⟨rfl, hb⟩
    exact ⟨rfl, ⟨t, B, h.later hb⟩, But.of hb⟩
  | some o =>
    by_cases hr : rdOk o off (k : Int)
    · have hr2 : 0 ≤ off ∧ 0 ≤ (k : Int) ∧ (k : Int) ≤ 1024 ∧ off + (k : Int) ≤ (o.data.length : Int) := hr
      have e2 : rdE Os id off (k : Int) = 0 := by simp only [rdE, ho, if_pos hr2]
      obtain ⟨off', rfl⟩ : ∃ q : Nat, off = (q : Int) := ⟨off.toNat, by omega⟩
      rw [e2, if_pos rfl, Int.toNat_natCast]
      refine (swrite_ok _ _ _ _ _ _ _ _ _ _ id off' o da k cd D w h hi ho (by omega) (by omega) hR hD (fun h0 j hj e => hap h0 j hj (.inr (.inr (.inl e))))).mono ?_
      rintro e w' ⟨B', rfl, hS, hb⟩
      exact ⟨rfl, ⟨t, B', hS⟩, hb.mono (fun _ e => .inr (.inr (.inl e)))⟩
    · have hr2 : ¬ (0 ≤ off ∧ 0 ≤ (k : Int) ∧ (k : Int) ≤ 1024 ∧ off + (k : Int) ≤ (o.data.length : Int)) := hr
      have e2 : rdE Os id off (k : Int) = 5 := by simp only [rdE, ho, if_neg hr2]
      rw [e2, if_neg (by decide)]
      refine (swrite_bad _ _ _ _ _ _ _ _ _ _ id off o da k cd w h hi ho hr).mono ?_
      rintro e w' ⟨rfl, hb⟩
      exact ⟨rfl, ⟨t, B, h.later hb⟩, But.of hb⟩
theorem at_last {Os : List Ob} {o : Ob} (h : ∀ p ∈ Os, p.id < o.id) : at? (Os ++ [o]) o.id = some o := by
  unfold at?
  rw [List.find?_append, List.find?_eq_none.2 (fun p hp => by have := h p hp; simp; omega)]
  simp
end Go.Proofs.Ytejkbeeffllpfaa
