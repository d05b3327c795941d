import Derived.Test.YtnjadfgfpebkdaaGreatSF

namespace Go.Proofs.YtnjadfgfpebkdaaGreat.S
open Go.RowKit
set_option linter.unusedVariables false

def strB (l : List Nat) : ByteArray := ⟨(l.map UInt8.ofNat).toArray⟩
theorem strB_inj {L M : List Nat} (hL : ∀ x ∈ L, x < 256) (hM : ∀ x ∈ M, x < 256) (h : strB L = strB M) : L = M := by
  unfold strB at h
  have h1 : L.map UInt8.ofNat = M.map UInt8.ofNat := by simpa using h
  have key : ∀ (K : List Nat), (∀ x ∈ K, x < 256) → (K.map UInt8.ofNat).map UInt8.toNat = K := by
    intro K hK
    rw [List.map_map]
    conv => rhs; rw [← List.map_id K]
    apply List.map_congr_left
    intro x hx
    have := hK x hx
    simp [UInt8.toNat_ofNat']
    omega
  rw [← key L hL, ← key M hM, h1]
theorem str_beq (x y : ByteArray) : (x.toList == y.toList) = decide (x = y) := by
  by_cases h : x = y
  · subst h; simp
  · rw [decide_eq_false h, beq_eq_false_iff_ne]
    intro e
    rw [ByteArray.toList_eq, ByteArray.toList_eq] at e
    exact h (ByteArray.ext (Array.toList_inj.1 e))
theorem conv_none (W : World) : (convert 87 9 (.slice none 0 0)).run Tryz.prog W = .ok (.string (strB [])) W := by
  rw [run_convert_bytes_string W 87 9 5 none 0 0 Tryz.underlying87 Tryz.underlying5 Tryz.underlying9]
  rfl
theorem _root_.Go.Proofs.YtnjadfgfpebkdaaGreat.Row.conv {w : World} {a : Option Addr} {n cap : Nat} {L : List Nat} (h : Row w a n cap (u8s L)) (hs : ∀ x ∈ L, x < 256) : (convert 87 9 (.slice a n cap)).run Tryz.prog w = .ok (.string (strB L)) w := by
  have hlen := h.len
  rw [u8s_length] at hlen
  cases a with
  | none =>
    obtain ⟨rfl, rfl⟩ := h.none_ rfl
    have hL : L = [] := List.eq_nil_of_length_eq_zero hlen
    subst hL
    exact conv_none w
  | some x =>
    have hl : (L.map UInt8.ofNat).length = n := by simp [hlen]
    have := run_convert_bytes_back (P := Tryz.prog) w 87 9 5 x cap (L.map UInt8.ofNat) Tryz.underlying87 Tryz.underlying5 Tryz.underlying9 (fun j hj => by
      have hj' : j < L.length := by simpa using hj
      rw [h.cells x rfl j _ (u8s_get L j hj')]
      have := hs _ (List.getElem_mem hj')
      simp [UInt8.toNat_ofNat']
      omega)
    rw [hl] at this
    exact this
/-- A few bytes that are written out. -/
theorem row_new (w : World) (L : List Nat) (e : TypeId) : Row (w.alloc (.cells (u8s L).toArray e)) (some ⟨w.heap.size, 0, none⟩) L.length L.length (u8s L) :=
  Row.at (u8s_length _) (Nat.le_refl _) (u8s_one _) (fun i v hv => by
    rw [Nat.zero_add]
    exact (lies_new w _ e i v (by simpa using hv)).1)
end Go.Proofs.YtnjadfgfpebkdaaGreat.S
namespace Go.Proofs.YtnjadfgfpebkdaaGreat.S
open Go.RowKit
set_option linter.unusedVariables false

/-- A store's blocks and bounds. -/
structure Sid where
  s : Nat
  g : Nat
  pb : Nat
  m : Nat
  n : Nat
  room : Nat
def St (w : World) (z : Sid) (nx : Int) (Os : List Ob) : Prop := ∃ t B, Sto w z.s z.g z.pb z.m z.n z.room nx t B Os
def Zb (z : Sid) (k : Nat) : Prop := Sb z.s z.g z.pb z.m k
def i64ok (x : Int) : Prop := -9223372036854775808 ≤ x ∧ x < 9223372036854775808
theorem St.but {S : Nat → Prop} {w w' : World} {z : Sid} {nx : Int} {Os : List Ob} (hb : But S w w') (h : St w z nx Os) (h1 : ∀ k, Zb z k → ¬ S k) (h2 : ∀ k, Rb Os k → ¬ S k) : St w' z nx Os := by
  obtain ⟨t, B, h⟩ := h
  exact ⟨t, B, h.but hb h1 h2⟩
theorem St.later {w w' : World} {z : Sid} {nx : Int} {Os : List Ob} (hb : Below w.heap.size w w') (h : St w z nx Os) : St w' z nx Os := by
  obtain ⟨t, B, h⟩ := h
  exact ⟨t, B, h.later hb⟩
theorem St.rlt {w : World} {z : Sid} {nx : Int} {Os : List Ob} (h : St w z nx Os) : ∀ k, Rb Os k → k < w.heap.size := by
  obtain ⟨t, B, h⟩ := h
  rintro k ⟨o, ho, hk⟩
  exact (h.off o ho k hk).2.2.2.2
theorem St.zlt {w : World} {z : Sid} {nx : Int} {Os : List Ob} (h : St w z nx Os) : ∀ k, Zb z k → k < w.heap.size := by
  obtain ⟨t, B, h⟩ := h
  rintro k (rfl | rfl | rfl | rfl)
  · exact World.block_lt_of_cell? _ _ h.c0.1
  · exact h.arn.glt
  · exact h.arn.lt
  · exact h.map.lt
theorem St.used {w : World} {z : Sid} {nx : Int} {Os : List Ob} (h : St w z nx Os) : usedN Os ≤ z.n ∧ z.n ≤ 256 := by
  obtain ⟨t, B, h⟩ := h
  have := h.count
  have := h.arn.le
  omega
theorem st_new (room n : Nat) (w : World) (h1 : 1 ≤ room ∧ room ≤ 64) (h2 : 1 ≤ n ∧ n ≤ 256) :
    Calls Tryz.prog 30 #[.int .i64 (room : Int), .int .i64 (n : Int)] w fun e w' => ∃ z : Sid, z.n = n ∧ z.room = room ∧ e = .returned (.tuple #[.pointer (some ⟨z.s, 0, none⟩), .int .i64 0]) ∧ St w' z 1 [] ∧ (∀ k, Zb z k → w.heap.size ≤ k ∧ k < w'.heap.size) ∧ Below w.heap.size w w' := by
  refine (snew_ok room n w h1 h2).mono ?_
  rintro e w' ⟨s, g, pb, m, rfl, hS, hk, hb⟩
  exact ⟨⟨s, g, pb, m, n, room⟩, rfl, rfl, rfl, ⟨_, _, hS⟩, hk, hb⟩
theorem st_free (z : Sid) (nx : Int) (Os : List Ob) (w : World) (h : St w z nx Os) :
    Calls Tryz.prog 57 #[.pointer (some ⟨z.s, 0, none⟩)] w fun e w' => e = .returned (.int .i64 ((z.n - usedN Os : Nat) : Int)) ∧ Below w.heap.size w w' := by
  obtain ⟨t, B, h⟩ := h
  exact sfree_any _ _ _ _ _ _ _ _ _ _ _ h
theorem st_next (z : Sid) (nx : Int) (Os : List Ob) (w : World) (h : St w z nx Os) :
    Calls Tryz.prog 59 #[.pointer (some ⟨z.s, 0, none⟩)] w fun e w' => e = .returned (.int .i64 nx) ∧ w' = w := by
  obtain ⟨t, B, h⟩ := h
  exact snext_any _ _ _ _ _ _ _ _ _ _ _ h
theorem st_ids (z : Sid) (nx : Int) (Os : List Ob) (w : World) (h : St w z nx Os) :
    Calls Tryz.prog 9 #[.pointer (some ⟨z.s, 0, none⟩)] w fun e w' => ∃ a cap, e = .returned (.slice a Os.length cap) ∧ Own w' w.heap.size 3 a Os.length cap (ints (Os.map Ob.id)) ∧ Below w.heap.size w w' := by
  obtain ⟨t, B, h⟩ := h
  exact ids_any _ _ _ _ _ _ _ _ _ _ _ h
theorem st_size (z : Sid) (nx : Int) (Os : List Ob) (id : Int) (w : World) (h : St w z nx Os) (hi : i64ok id) :
    Calls Tryz.prog 18 #[.pointer (some ⟨z.s, 0, none⟩), .int .i64 id] w fun e w' => e = .returned (match at? Os id with | some o => .tuple #[.int .i64 (o.data.length : Int), .bool true] | none => .tuple #[.int .i64 0, .bool false]) ∧ Below w.heap.size w w' := by
  obtain ⟨t, B, h⟩ := h
  cases ho : at? Os id with
  | none => exact size_none _ _ _ _ _ _ _ _ _ _ _ _ h hi ho
  | some o => exact size_some _ _ _ _ _ _ _ _ _ _ _ _ _ h hi ho
/-- A new object. -/
theorem st_create_ok (z : Sid) (nx : Int) (Os : List Ob) (k : Nat) (w : World) (h : St w z nx Os) (hE : mayE z.room z.n nx Os (k : Int) = 0) :
    Calls Tryz.prog 36 #[.pointer (some ⟨z.s, 0, none⟩), .int .i64 (k : Int)] w fun e w' => ∃ P a, e = .returned (.tuple #[.int .i64 nx, .int .i64 0]) ∧ (∀ j, Blk a j → w.heap.size ≤ j ∧ j < w'.heap.size) ∧ St w' z (nx + 1) (Os ++ [⟨nx, List.replicate k 0, P, a⟩]) ∧ But (Zb z) w w' := by
  obtain ⟨t, B, h⟩ := h
  refine (create_ok _ _ _ _ _ _ _ _ _ _ k w h hE).mono ?_
  rintro e w' ⟨a, t', rfl, hb, hS, hB⟩
  exact ⟨_, a, rfl, hb, ⟨t', B, hS⟩, hB⟩
theorem st_create_bad (z : Sid) (nx : Int) (Os : List Ob) (size E : Int) (w : World) (h : St w z nx Os) (hE : mayE z.room z.n nx Os size = E) (hn : E ≠ 0) :
    Calls Tryz.prog 36 #[.pointer (some ⟨z.s, 0, none⟩), .int .i64 size] w fun e w' => e = .returned (.tuple #[.int .i64 0, .int .i64 E]) ∧ Below w.heap.size w w' := by
  obtain ⟨t, B, h⟩ := h
  exact create_bad _ _ _ _ _ _ _ _ _ _ size E w h hE hn
theorem st_destroy_ok (z : Sid) (nx : Int) (Os : List Ob) (id : Int) (o : Ob) (w : World) (h : St w z nx Os) (hi : i64ok id) (ho : at? Os id = some o) :
    Calls Tryz.prog 100 #[.pointer (some ⟨z.s, 0, none⟩), .int .i64 id] w fun e w' => e = .returned (.int .i64 0) ∧ St w' z nx (without id Os) ∧ But (Zb z) w w' := by
  obtain ⟨t, B, h⟩ := h
  refine (destroy_ok _ _ _ _ _ _ _ _ _ _ id o w h hi ho).mono ?_
  rintro e w' ⟨t', B', rfl, hS, hB⟩
  exact ⟨rfl, ⟨t', B', hS⟩, hB⟩
theorem st_destroy_none (z : Sid) (nx : Int) (Os : List Ob) (id : Int) (w : World) (h : St w z nx Os) (hi : i64ok id) (ho : at? Os id = none) :
    Calls Tryz.prog 100 #[.pointer (some ⟨z.s, 0, none⟩), .int .i64 id] w fun e w' => e = .returned (.int .i64 20) ∧ Below w.heap.size w w' := by
  obtain ⟨t, B, h⟩ := h
  exact destroy_none _ _ _ _ _ _ _ _ _ _ id w h hi ho
/-- What a read answers. -/
def rdE (Os : List Ob) (id off k : Int) : Int := match at? Os id with
  | none => 20
  | some o => if 0 ≤ off ∧ 0 ≤ k ∧ k ≤ 1024 ∧ off + k ≤ (o.data.length : Int) then 0 else 5
def rdL (Os : List Ob) (id off k : Int) : List Nat := match at? Os id with
  | none => []
  | some o => if 0 ≤ off ∧ 0 ≤ k ∧ k ≤ 1024 ∧ off + k ≤ (o.data.length : Int) then (o.data.drop off.toNat).take k.toNat else []
theorem rdL_small {w : World} {z : Sid} {nx : Int} {Os : List Ob} (h : St w z nx Os) (id off k : Int) : ∀ x ∈ rdL Os id off k, x < 256 := by
  obtain ⟨t, B, h⟩ := h
  intro x hx
  unfold rdL at hx
  cases ho : at? Os id with
  | none => rw [ho] at hx; simp at hx
  | some o =>
    rw [ho] at hx
    simp only at hx
    split at hx
    · exact h.small (at_mem ho).1 x (List.mem_of_mem_drop (List.mem_of_mem_take hx))
    · cases hx
theorem st_read (z : Sid) (nx : Int) (Os : List Ob) (id off k : Int) (w : World) (h : St w z nx Os) (hi : i64ok id) :
    Calls Tryz.prog 62 #[.pointer (some ⟨z.s, 0, none⟩), .int .i64 id, .int .i64 off, .int .i64 k] w fun e w' => ∃ a cap, e = .returned (.tuple #[.slice a (rdL Os id off k).length cap, .int .i64 (rdE Os id off k)]) ∧ Own w' w.heap.size 5 a (rdL Os id off k).length cap (u8s (rdL Os id off k)) ∧ Below w.heap.size w w' := by
  obtain ⟨t, B, h⟩ := h
  cases ho : at? Os id with
  | none =>
    have e1 : rdL Os id off k = [] := by simp [rdL, ho]
    have e2 : rdE Os id off k = 20 := by simp [rdE, ho]
    rw [e1, e2]
    refine (sread_none _ _ _ _ _ _ _ _ _ _ id off k w h hi ho).mono ?_
    rintro e w' ⟨rfl, hb⟩
    exact ⟨none, 0, rfl, Own.nil _ _ _, hb⟩
  | some o =>
    by_cases hr : rdOk o off k
    · have hr2 : 0 ≤ off ∧ 0 ≤ k ∧ k ≤ 1024 ∧ off + k ≤ (o.data.length : Int) := hr
      have e1 : rdL Os id off k = (o.data.drop off.toNat).take k.toNat := by simp [rdL, ho, hr2]
      have e2 : rdE Os id off k = 0 := by simp [rdE, ho, hr2]
      obtain ⟨off', rfl⟩ : ∃ q : Nat, off = (q : Int) := ⟨off.toNat, by omega⟩
      obtain ⟨k', rfl⟩ : ∃ q : Nat, k = (q : Int) := ⟨k.toNat, by omega⟩
      have e3 : ((o.data.drop off').take k').length = k' := by rw [List.length_take, List.length_drop]; omega
      rw [e1, e2, Int.toNat_natCast, Int.toNat_natCast, e3]
      refine (sread_ok _ _ _ _ _ _ _ _ _ _ id off' k' o w h hi ho (by omega) (by omega)).mono ?_
      rintro e w' ⟨a, cap, rfl, hO, hb⟩
      exact ⟨a, cap, rfl, hO, hb⟩
    · have hr2 : ¬ (0 ≤ off ∧ 0 ≤ k ∧ k ≤ 1024 ∧ off + k ≤ (o.data.length : Int)) := hr
      have e1 : rdL Os id off k = [] := by simp only [rdL, ho, if_neg hr2]
      have e2 : rdE Os id off k = 5 := by simp only [rdE, ho, if_neg hr2]
      rw [e1, e2]
      refine (sread_bad _ _ _ _ _ _ _ _ _ _ id off k o w h hi ho hr).mono ?_
      rintro e w' ⟨rfl, hb⟩
      exact ⟨none, 0, rfl, Own.nil _ _ _, hb⟩
/-- The objects behind a write. -/
def wrO (Os : List Ob) (id off : Int) (D : List Nat) : List Ob := if rdE Os id off (D.length : Int) = 0 then Os.map (setO id off.toNat D) else Os
theorem rb_setO {Os : List Ob} {id : Int} {off : Nat} {D : List Nat} {k : Nat} (h : Rb (Os.map (setO id off D)) k) : Rb Os k := by
  obtain ⟨o, ho, hk⟩ := h
  obtain ⟨p, hp, rfl⟩ := List.mem_map.1 ho
  rw [setO_adr] at hk
  exact ⟨p, hp, hk⟩
theorem rb_wrO {Os : List Ob} {id off : Int} {D : List Nat} {k : Nat} (h : Rb (wrO Os id off D) k) : Rb Os k := by
  unfold wrO at h
  split at h
  · exact rb_setO h
  · exact h
theorem rb_without {Os : List Ob} {id : Int} {k : Nat} (h : Rb (without id Os) k) : Rb Os k := by
  obtain ⟨o, ho, hk⟩ := h
  exact ⟨o, (mem_without.1 ho).1, hk⟩
theorem st_write (z : Sid) (nx : Int) (Os : List Ob) (id off : Int) (da : Option Addr) (k cd : Nat) (D : List Nat) (w : World) (h : St w z nx Os) (hi : i64ok id) (hR : Row w da k cd (u8s D)) (hD : ∀ x ∈ D, x < 256) (hap : 0 < k → ∀ j, Blk da j → ¬ Zb z j) :
    Calls Tryz.prog 34 #[.pointer (some ⟨z.s, 0, none⟩), .int .i64 id, .int .i64 off, .slice da k cd] w fun e w' => e = .returned (.int .i64 (rdE Os id off (k : Int))) ∧ St w' z nx (wrO Os id off D) ∧ But (Zb z) w w' := by
  obtain ⟨t, B, h⟩ := h
  have hk : D.length = k := by have := hR.len; rwa [u8s_length] at this
  unfold wrO
  rw [hk]
  cases ho : at? Os id with
  | none =>
    have e2 : rdE Os id off (k : Int) = 20 := by simp [rdE, ho]
    rw [e2, if_neg (by decide)]
    refine (swrite_none _ _ _ _ _ _ _ _ _ _ id off da k cd w h hi ho).mono ?_
    rintro e w' ⟨rfl, hb⟩
    exact ⟨rfl, ⟨t, B, h.later hb⟩, But.of hb⟩
  | some o =>
    by_cases hr : rdOk o off (k : Int)
    · have hr2 : 0 ≤ off ∧ 0 ≤ (k : Int) ∧ (k : Int) ≤ 1024 ∧ off + (k : Int) ≤ (o.data.length : Int) := hr
      have e2 : rdE Os id off (k : Int) = 0 := by simp only [rdE, ho, if_pos hr2]
      obtain ⟨off', rfl⟩ : ∃ q : Nat, off = (q : Int) := ⟨off.toNat, by omega⟩
      rw [e2, if_pos rfl, Int.toNat_natCast]
      refine (swrite_ok _ _ _ _ _ _ _ _ _ _ id off' o da k cd D w h hi ho (by omega) (by omega) hR hD (fun h0 j hj e => hap h0 j hj (.inr (.inr (.inl e))))).mono ?_
      rintro e w' ⟨B', rfl, hS, hb⟩
      exact ⟨rfl, ⟨t, B', hS⟩, hb.mono (fun _ e => .inr (.inr (.inl e)))⟩
    · have hr2 : ¬ (0 ≤ off ∧ 0 ≤ (k : Int) ∧ (k : Int) ≤ 1024 ∧ off + (k : Int) ≤ (o.data.length : Int)) := hr
      have e2 : rdE Os id off (k : Int) = 5 := by simp only [rdE, ho, if_neg hr2]
      rw [e2, if_neg (by decide)]
      refine (swrite_bad _ _ _ _ _ _ _ _ _ _ id off o da k cd w h hi ho hr).mono ?_
      rintro e w' ⟨rfl, hb⟩
      exact ⟨rfl, ⟨t, B, h.later hb⟩, But.of hb⟩
theorem at_last {Os : List Ob} {o : Ob} (h : ∀ p ∈ Os, p.id < o.id) : at? (Os ++ [o]) o.id = some o := by
  unfold at?
  rw [List.find?_append, List.find?_eq_none.2 (fun p hp => by have := h p hp; simp; omega)]
  simp
end Go.Proofs.YtnjadfgfpebkdaaGreat.S
namespace Go.Proofs.YtnjadfgfpebkdaaGreat.S
open Go.RowKit
set_option linter.unusedVariables false

/-- A block's first bytes, writable. -/
def Cel (w : World) (b m : Nat) (f : Nat → Nat) : Prop := ∀ j, j < m → Lies w ⟨b, j, none⟩ (.int .u8 ((f j : Nat) : Int))
theorem Cel.but {S : Nat → Prop} {w w' : World} {b m : Nat} {f : Nat → Nat} (hb : But S w w') (h : Cel w b m f) (hn : ¬ S b) : Cel w' b m f := fun j hj => (h j hj).but hb hn
theorem Cel.set {w : World} {b m k x : Nat} {f f' : Nat → Nat} (h : Cel w b m f) (hk : k < m) (hf : ∀ j, j < m → f' j = if j = k then x else f j) : Cel (w.setCell ⟨b, k, none⟩ (.int .u8 ((x : Nat) : Int))) b m f' := fun j hj => by
  rw [hf j hj]
  by_cases e : j = k
  · subst e
    rw [if_pos rfl]
    exact (h j hj).put
  · rw [if_neg e]
    exact (h j hj).other (fun e2 => e (by have := congrArg Addr.off e2; simp at this; omega))
theorem Cel.row {w : World} {b : Nat} {L : List Nat} (h : Cel w b L.length (fun x => L.getD x 0)) (cap : Nat) (hc : L.length ≤ cap) : Row w (some ⟨b, 0, none⟩) L.length cap (u8s L) :=
  Row.at (u8s_length _) hc (u8s_one _) (fun i v hv => by
    have hi : i < L.length := by have := (List.getElem?_eq_some_iff.1 hv).1; rwa [u8s_length] at this
    rw [u8s_get L i hi] at hv
    cases hv
    have := (h i hi).1
    simp only [List.getD_eq_getElem?_getD, List.getElem?_eq_getElem hi, Option.getD_some] at this
    rw [Nat.zero_add]
    exact this)
def newG (G : Int → Nat) (id : Int) (gm : Nat) : Int → Nat := fun i => if i = id then gm else G i
/-- The object at a place taken out, by its number. -/
theorem without_at {Os : List Ob} (hr : Os.Pairwise (fun a b => a.id < b.id)) {k : Nat} (hk : k < Os.length) : without Os[k].id Os = Os.take k ++ Os.drop (k + 1) := by
  rw [List.pairwise_iff_getElem] at hr
  obtain ⟨o, ho⟩ : ∃ o, o = Os[k] := ⟨_, rfl⟩
  have e : Os = Os.take k ++ o :: Os.drop (k + 1) := by rw [ho, ← List.drop_eq_getElem_cons hk, List.take_append_drop]
  rw [← ho]
  have e2 : without o.id Os = without o.id (Os.take k ++ o :: Os.drop (k + 1)) := congrArg (without o.id) e
  rw [e2]
  unfold without
  rw [List.filter_append, List.filter_cons, if_neg (by simp)]
  congr 1
  · refine List.filter_eq_self.2 fun p hp => ?_
    obtain ⟨i, hi, rfl⟩ := List.getElem_of_mem hp
    rw [List.length_take] at hi
    rw [List.getElem_take, ho]
    have := hr i k (by omega) hk (by omega)
    simp
    omega
  · refine List.filter_eq_self.2 fun p hp => ?_
    obtain ⟨i, hi, rfl⟩ := List.getElem_of_mem hp
    rw [List.length_drop] at hi
    rw [List.getElem_drop, ho]
    have := hr k (k + 1 + i) hk (by omega) (by omega)
    simp
    omega
theorem at_at {Os : List Ob} (hr : Os.Pairwise (fun a b => a.id < b.id)) {k : Nat} (hk : k < Os.length) : at? Os Os[k].id = some Os[k] := by
  cases h : at? Os Os[k].id with
  | none => exact absurd rfl (at_none h _ (List.getElem_mem hk))
  | some o => rw [at_uniq hr h (List.getElem_mem hk) rfl]
end Go.Proofs.YtnjadfgfpebkdaaGreat.S
namespace Go.Proofs.YtnjadfgfpebkdaaGreat.S
open Go.RowKit
set_option linter.unusedVariables false
set_option linter.unusedSimpArgs false

theorem St.rise {w : World} {z : Sid} {nx : Int} {Os : List Ob} (h : St w z nx Os) : Os.Pairwise (fun a b => a.id < b.id) := by
  obtain ⟨t, B, h⟩ := h
  exact h.rise
theorem St.ids {w : World} {z : Sid} {nx : Int} {Os : List Ob} (h : St w z nx Os) : ∀ o ∈ Os, 1 ≤ o.id ∧ o.id < nx := by
  obtain ⟨t, B, h⟩ := h
  exact h.ids
theorem St.rm {w : World} {z : Sid} {nx : Int} {Os : List Ob} (h : St w z nx Os) : Os.length ≤ z.room := by
  obtain ⟨t, B, h⟩ := h
  exact h.rm.1
theorem St.nx1 {w : World} {z : Sid} {nx : Int} {Os : List Ob} (h : St w z nx Os) : 1 ≤ nx ∧ nx ≤ 4611686018427387905 := by
  obtain ⟨t, B, h⟩ := h
  exact h.nx1
theorem St.small {w : World} {z : Sid} {nx : Int} {Os : List Ob} (h : St w z nx Os) : ∀ o ∈ Os, ∀ x ∈ o.data, x < 256 := by
  obtain ⟨t, B, h⟩ := h
  exact fun o ho => h.small ho
end Go.Proofs.YtnjadfgfpebkdaaGreat.S
namespace Go.Proofs.YtnjadfgfpebkdaaGreat.S
open Go.RowKit
set_option linter.unusedVariables false
set_option linter.unusedSimpArgs false

theorem wpAnyH_norm {P : Program} {md : Region.Mode} {ops : Array Oper} {Q : Exit → Act → World → Prop} {S : World → Prop} {fuel f2 : Nat} {listed l2 : Array Bool} {a : Act} {w : World} (hl : listed = l2) (hf : fuel = f2) (h : wpAnyH P md ops Q S f2 l2 a w) : wpAnyH P md ops Q S fuel listed a w := by
  subst hl hf
  exact h
theorem share {P : Program} {md : Region.Mode} {ops : Array Oper} {Q : Exit → Act → World → Prop} {S : World → Prop} {f0 : Nat} {l0 : Array Bool} {a0 : Act} {u0 : World} (X : Type) (f : Nat) (l : Array Bool) (A : Act → X → Act) (pre : X → World → Prop)
    (key : ∀ (x : X) (u : World), pre x u → wpAnyH P md ops Q S f l (A a0 x) u)
    (h : Hid (∀ (x : X) (u : World), pre x u → wpAnyH P md ops Q S f l (A a0 x) u) → wpAnyH P md ops Q S f0 l0 a0 u0) : wpAnyH P md ops Q S f0 l0 a0 u0 := h key
theorem wp_append_known {P : Program} {w : World} {o : Oper} {a : Act} {K : Act → World → Prop} {Q : Exit → Act → World → Prop} (s x : Operand) (t : TypeId)
    (ho : o.op = .call { callee := .builtin .append, args := #[s, x], argTypes := #[t, t] }) (vs vx : Value) (hs : a.eval s = vs) (hx : a.eval x = vx) (v' : Value) (w' : World)
    (hr : (Builtin.append_ #[t, t] o.type #[vs, vx]).run P w = .ok v' w') (h : K (a.put o.dst v') w') : o.wp P a w K Q := by
  unfold Oper.wp execOp
  simp only [ho, resolve, invoke, builtin, Sem.run_bind, Sem.run_pure, Result.andThen_ok, List.map_toArray, List.map_cons, List.map_nil, hs, hx, hr]
  exact h
theorem make_zeros (k : Nat) (hk : k ≤ 140737488355328) : ∃ Z : Array Value, Z.toList = u8s (List.replicate k 0) ∧ ∀ W : World, (Instr.makeSlice 87 (.int .i64 (k : Int)) (.int .i64 (k : Int))).run Tryz.prog W = .ok (.slice (some ⟨W.heap.size, 0, none⟩) k k) (W.alloc (.cells Z 5)) := by
  obtain ⟨i, hi, hz0, hz1, hz2⟩ := info_parts info5
  refine ⟨madeCells (Value.int .u8 0).cells k, ?_, fun W => ?_⟩
  · refine List.ext_getElem (by simp [size_madeCells, u8s_length]) fun j h1 h2 => ?_
    have e : (Value.int .u8 0).cells = #[.int .u8 0] := rfl
    simp [madeCells, u8s, e, Nat.mod_one]
  · have hr := run_make (P := Tryz.prog) W 87 5 i _ Tryz.underlying87 hi hz0 .i64 .i64 (k : Int) (k : Int) (by omega) (by omega) (by rw [hz2]; omega) (by omega)
    simp only [Int.toNat_natCast, hz1, Nat.mul_one] at hr
    exact hr
/-- What a write leaves of the law's own row. -/
def wf (L D : List Nat) (off j : Nat) : Nat → Nat := fun x => if off ≤ x ∧ x < off + j then D.getD (x - off) 0 else L.getD x 0
theorem wf_next (L D : List Nat) (off j x : Nat) : wf L D off (j + 1) x = if x = off + j then D.getD j 0 else wf L D off j x := by
  unfold wf
  by_cases e : x = off + j
  · subst e
    rw [if_pos (by omega), if_pos rfl, Nat.add_sub_cancel_left]
  · rw [if_neg e]
    by_cases h : off ≤ x ∧ x < off + j
    · rw [if_pos h, if_pos (by omega)]
    · rw [if_neg h, if_neg (by omega)]
theorem wf_zero (L D : List Nat) (off : Nat) : wf L D off 0 = fun x => L.getD x 0 := by
  funext x
  unfold wf
  rw [if_neg (by omega)]
theorem wf_all {L D : List Nat} {off : Nat} (h : off + D.length ≤ L.length) : wf L D off D.length = fun x => (putL L D off).getD x 0 := by
  funext x
  rw [putL_get h]
  rfl
end Go.Proofs.YtnjadfgfpebkdaaGreat.S
