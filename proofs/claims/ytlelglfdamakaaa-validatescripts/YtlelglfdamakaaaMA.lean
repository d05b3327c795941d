import Derived.Test.YtlelglfdamakaaaMC
import Derived.Test.YtlelglfdamakaaaMP
namespace Go.Proofs.Ytlelglfdamakaaa
open Go.RowKit
set_option linter.unusedVariables false

theorem ints_set (L : List Int) (j : Nat) (v : Int) : (ints L).set j (.int .i64 v) = ints (L.set j v) := by simp [ints, List.map_set]
theorem Own.set {w : World} {base g n c j : Nat} {L : List Int} {v : Int} (h : Own w base 3 (some ⟨g, 0, none⟩) n c (ints L)) : Own (w.setCell ⟨g, j, none⟩ (.int .i64 v)) base 3 (some ⟨g, 0, none⟩) n c (ints (L.set j v)) :=
  ⟨by rw [← ints_set]; exact (h.row.stored j _).1, ints_one _⟩
theorem Own.form {w : World} {base : Nat} {e : TypeId} {a : Option Addr} {n cap : Nat} {L : List Value} (h : Own w base e a n cap L) (hn : 0 < n) : ∃ g, a = some ⟨g, 0, none⟩ := by
  rcases h.row.2 with ⟨_, h1⟩ | ⟨g, c, cur, hv, _⟩
  · omega
  · simp only [Value.slice.injEq] at hv
    exact ⟨g, hv.1⟩
def Gro (w : World) (base : Nat) (a : Option Addr) (n cap : Nat) (L : List Value) : Prop := Own w base 3 a n cap L ∨ (n = cap ∧ ∃ p, a = some p ∧ Row w a n cap L)
theorem append_one {w : World} {base : Nat} {a : Option Addr} {n cap : Nat} {L : List Int} (x : Int) (h : Gro w base a n cap (ints L)) (hb : base ≤ w.heap.size) (hr : (n + 1) * 8 ≤ 140737488355328) :
    ∃ a' cap' w', (Builtin.append_ #[135, 135] 135 #[.slice a n cap, .slice (some ⟨w.heap.size, 0, none⟩) 1 1]).run Try.prog (w.alloc (Obj.cells #[.int .i64 x] 3)) = .ok (.slice a' (n + 1) cap') w' ∧ Own w' base 3 a' (n + 1) cap' (ints (L ++ [x])) ∧ Gr a a' w w' := by
  rcases h with h | ⟨rfl, p, rfl, h⟩
  · obtain ⟨a', cap', w', hrun, hO, hG⟩ := append_ints (h.alloc (Obj.cells #[.int .i64 x] 3)) (Row.single w 3 (.int .i64 x) rfl) (by simp; omega) hr
    exact ⟨a', cap', w', hrun, by rw [ints_append]; exact hO, hG.pre (below1 _ _)⟩
  · obtain ⟨g', cap', w', hrun, hO, hB⟩ := append_full_gen 135 3 _ 8 Try.underlying135 info3 rfl (h.alloc (Obj.cells #[.int .i64 x] 3)) (Row.single w 3 (.int .i64 x) rfl) (by omega) hr (by omega)
    refine ⟨_, cap', w', hrun, by rw [ints_append]; exact hO.mono (by simp; omega), But.of (below_call (below1 _ _) hB), fun k hk => .inr ?_⟩
    have := hO.blk k hk
    simp at this
    omega
theorem Own.sub {w : World} {base : Nat} {e : TypeId} {a : Option Addr} {n cap : Nat} {L : List Value} (h : Own w base e a n cap L) {m : Nat} (hm : m ≤ n) : Own w base e a m cap (L.take m) := by
  refine ⟨?_, fun u hu => h.one u (List.mem_of_mem_take hu)⟩
  have hl := h.len
  refine ⟨by rw [List.length_take]; omega, ?_⟩
  rcases h.row.2 with ⟨h1, h2⟩ | ⟨g, c, cur, hv, hg, hh, hc, hc2, hs, ht⟩
  · subst h2
    obtain rfl : m = 0 := by omega
    exact .inl ⟨h1, rfl⟩
  · simp only [Value.slice.injEq] at hv
    obtain ⟨rfl, _, rfl⟩ := hv
    refine .inr ⟨g, cap, cur, rfl, hg, hh, Nat.le_trans hm hc, hc2, hs, ?_⟩
    rw [← ht, List.take_take]
    congr 1
    omega
/-- A list that is turned round, i of its ends having been changed. -/
def RevAt (L M : List Int) (i : Nat) : Prop := M.length = L.length ∧ ∀ k, k < L.length → M[k]? = if k < i ∨ L.length ≤ k + i then L[L.length - 1 - k]? else L[k]?
theorem RevAt.step {L M : List Int} {i j : Nat} {x y : Int} (h : RevAt L M i) (hj : i + j + 1 = L.length) (hij : i < j) (hx : M[i]? = some x) (hy : M[j]? = some y) : RevAt L ((M.set i y).set j x) (i + 1) := by
  obtain ⟨h1, h2⟩ := h
  refine ⟨by simp [h1], fun k hk => ?_⟩
  have hi2 := h2 i (by omega)
  rw [if_neg (by omega), hx] at hi2
  have hj2 := h2 j (by omega)
  rw [if_neg (by omega), hy] at hj2
  rw [List.getElem?_set]
  split
  · next e =>
    subst e
    rw [if_pos (by simp; omega), if_pos (by omega), show L.length - 1 - j = i by omega]
    exact hi2
  · rw [List.getElem?_set]
    split
    · next e =>
      subst e
      rw [if_pos (by omega), if_pos (by omega), show L.length - 1 - i = j by omega]
      exact hj2
    · rw [h2 k hk]
      by_cases hc : k < i ∨ L.length ≤ k + i
      · rw [if_pos hc, if_pos (by omega)]
      · rw [if_neg hc, if_neg (by omega)]
theorem RevAt.end_ {L M : List Int} {i : Nat} (h : RevAt L M i) (hi : L.length ≤ 2 * i + 1) : M = L.reverse := by
  obtain ⟨h1, h2⟩ := h
  apply List.ext_getElem?
  intro k
  by_cases hk : k < L.length
  · rw [h2 k hk, List.getElem?_reverse hk]
    split
    · rfl
    · rw [show L.length - 1 - k = k by omega]
  · rw [List.getElem?_eq_none (by omega), List.getElem?_eq_none (by simp; omega)]
def RevRel (w : World) (base : Nat) (a : Option Addr) (n cap : Nat) (L : List Int) (t u : Value) (w' : World) : Prop :=
  ∃ (i : Nat) (M : List Int), t = .int .i64 (i : Int) ∧ u = .int .i64 ((n : Int) - 1 - i) ∧ RevAt L M i ∧ Own w' base 3 a n cap (ints M) ∧ But (Blk a) w w'
set_option maxRecDepth 100000 in
set_option maxHeartbeats 1000000 in
theorem rev_any {w : World} {base : Nat} {a : Option Addr} {n cap : Nat} {L : List Int} (h : Own w base 3 a n cap (ints L)) (hn : n ≤ 2048) :
    Calls Try.prog 81 #[.slice a n cap] w fun e w' => (∃ v, e = .returned v) ∧ Own w' base 3 a n cap (ints L.reverse) ∧ But (Blk a) w w' := by
  have hl := h.len
  rw [ints_length] at hl
  have HO := hid h
  clear h
  go_enter Try.func81, Try.ntmps81
  go_upto_region 1 with fail
  go_loopw [2, 3] (RevRel w base a n cap L) (fun t _ _ => n - (intOf t).toNat)
  case atStart => exact ⟨0, L, rfl, by go_num, ⟨rfl, fun k hk => by rw [if_neg (by omega)]⟩, HO.out, But.refl _ _⟩
  case round =>
    obtain ⟨i, M, rfl, rfl, hR, hO, hB⟩ := hrel
    by_cases hlt : 2 * i + 1 < n
    · obtain ⟨g, rfl⟩ := hO.form (by omega)
      obtain ⟨j, hj⟩ : ∃ j : Nat, i + j + 1 = n := ⟨n - 1 - i, by omega⟩
      have hje : ((n : Int) - 1 - i) = (j : Int) := by omega
      rw [hje]
      have hlM : M.length = n := by rw [hR.1]; exact hl
      obtain ⟨x, hx⟩ := get_some (L := M) (i := i) (by omega)
      obtain ⟨y, hy⟩ := get_some (L := M) (i := j) (by omega)
      obtain ⟨_, e1, hL1⟩ := hO.lies rfl (j := i) (u := .int .i64 x) (by simp [ints, hx])
      cases e1
      obtain ⟨_, e2, hL2⟩ := hO.lies rfl (j := j) (u := .int .i64 y) (by simp [ints, hy])
      cases e2
      have y1 := hL1.1
      have z1 := hL1.2
      have y2 := hL2.1
      have z2 := hL2.2
      have hij : i < j := by omega
      have hjn : j < n := by omega
      have HO2 := hid ((hO.set (j := i) (v := y)).set (j := j) (v := x))
      have HB2 := hid ((hB.setCell (p := ⟨g, i, none⟩) ⟨_, rfl, rfl⟩ (.int .i64 y)).setCell (p := ⟨g, j, none⟩) ⟨_, rfl, rfl⟩ (.int .i64 x))
      have HR2 := hid (hR.step (by omega) hij hx hy)
      clear hO hB hR hL1 hL2 HO
      have y3 : (wr.setCell ⟨g, i, none⟩ (.int .i64 y)).cell? ⟨g, j, none⟩ = some (.int .i64 y) := cell_ne y2 (by omega)
      have hne : ((i : Int) == (j : Int)) = false := by simp; omega
      clear hx hy hje hlM hlt
      go_wp2
      go_region
      go_wp2
      go_roundw
      case rel => exact ⟨i + 1, _, by go_num, by go_num, HR2.out, HO2.out.later ((Below.refl _ _).drew), HB2.out.call ((Below.refl _ _).drew)⟩
      case measure => simp [intOf]; omega
    · have hge : ¬ ((i : Int) < (n : Int) - 1 - i) := by omega
      have HO2 := hid hO
      have HB2 := hid hB
      have HE := hid (hR.end_ (by omega))
      clear hO hB hR HO hlt
      go_wp2
      go_end0
      exact ⟨⟨_, rfl⟩, by have := HO2.out; rwa [HE.out] at this, HB2.out⟩
end Go.Proofs.Ytlelglfdamakaaa
namespace Go.Proofs.Ytlelglfdamakaaa
open Go.RowKit
set_option linter.unusedVariables false

theorem Ki.big {w : World} {g gb m : Nat} {l : Fo} (h : Ki w g gb m l) : m ≤ 1024 := by
  obtain ⟨N, h1, _⟩ := h
  exact h1.big
theorem Ki.lt {w : World} {g gb m : Nat} {l : Fo} (h : Ki w g gb m l) : g < w.heap.size ∧ gb < w.heap.size := by
  obtain ⟨N, h1, _⟩ := h
  exact ⟨h1.lt, h1.lt2⟩
theorem Own.one_new (w : World) (x : Int) : Own (w.alloc (Obj.cells #[.int .i64 x] 3)) w.heap.size 3 (some ⟨w.heap.size, 0, none⟩) 1 1 (ints [x]) :=
  ⟨⟨rfl, .inr ⟨w.heap.size, 1, #[.int .i64 x], rfl, Nat.le_refl _, heap_alloc_new w _, Nat.le_refl _, by unfold maxLen; omega, rfl, rfl⟩⟩, ints_one _⟩
theorem fm_ge {m : Nat} {l : Fo} (h : Ok m l) {e : Bool} : ∀ {S : List Int}, (∀ x ∈ S, x ∈ nums l) → S.length ≤ (S.flatMap (G e l)).length
  | [], _ => Nat.zero_le _
  | x :: S, hs => by
    have h1 := fm_ge h (e := e) (S := S) (fun y hy => hs y (by simp [hy]))
    rw [List.flatMap_cons, List.length_append, List.length_cons, G_eq h (hs x (by simp)), List.length_cons]
    omega
/-- The state of the walk: what was told, what waits. -/
structure Sub (l : Fo) (e : Bool) (n : Int) (O S : List Int) : Prop where
  sum : O ++ S.reverse.flatMap (G e l) = G e l n
  inn : ∀ x ∈ S, x ∈ nums l
theorem Sub.start {l : Fo} {e : Bool} {n : Int} (hn : n ∈ nums l) : Sub l e n [] [n] := ⟨by simp, fun x hx => by rw [List.mem_singleton] at hx; rw [hx]; exact hn⟩
theorem Sub.step {m : Nat} {l : Fo} (h : Ok m l) {e : Bool} {n x : Int} {O S : List Int} (hs : Sub l e n O (S ++ [x])) : Sub l e n (O ++ [x]) (S ++ (ord e (ch l x)).reverse) := by
  have hx := hs.inn x (by simp)
  refine ⟨?_, fun y hy => ?_⟩
  · rw [← hs.sum]
    simp [G_eq h hx]
  · rw [List.mem_append, List.mem_reverse, mem_ord] at hy
    rcases hy with hy | hy
    · exact hs.inn y (by simp [hy])
    · exact ch_mem hy
theorem Sub.len {m : Nat} {l : Fo} (h : Ok m l) {e : Bool} {n : Int} {O S : List Int} (hs : Sub l e n O S) : O.length + S.length ≤ (G e l n).length := by
  have h1 := fm_ge h (e := e) (S := S.reverse) (fun x hx => hs.inn x (List.mem_reverse.1 hx))
  rw [← hs.sum, List.length_append]
  rw [List.length_reverse] at h1
  omega
theorem Sub.end_ {l : Fo} {e : Bool} {n : Int} {O : List Int} (hs : Sub l e n O []) : O = G e l n := by have := hs.sum; simpa using this
/-- Two lists in memory of their own. -/
structure Two (w w' : World) (a b : Option Addr) (i c j d : Nat) (O S : List Int) : Prop where
  o : Own w' w.heap.size 3 a i c (ints O)
  s : Own w' w.heap.size 3 b j d (ints S)
  ap : ∀ k, Blk a k → ¬ Blk b k
  lt : Below w.heap.size w w'
def SubRel (w : World) (l : Fo) (e : Bool) (n : Int) (k : Nat) (v t : Value) (w' : World) : Prop :=
  ∃ (O S : List Int) (a b : Option Addr) (i c j d : Nat), v = .slice a i c ∧ t = .slice b j d ∧ i + k = (G e l n).length ∧ Sub l e n O S ∧ Two w w' a b i c j d O S
/-- Behind the first append. -/
theorem Two.out1 {w wr : World} {a b : Option Addr} {i c j d : Nat} {O S : List Int} (h : Two w wr a b i c j d O S) (x : Int) (hi : i ≤ 2048) :
    ∃ a' c' w2, (Builtin.append_ #[135, 135] 135 #[.slice a i c, .slice (some ⟨wr.heap.size, 0, none⟩) 1 1]).run Try.prog (wr.alloc (Obj.cells #[.int .i64 x] 3)) = .ok (.slice a' (i + 1) c') w2 ∧ Two w w2 a' b (i + 1) c' j d (O ++ [x]) S := by
  obtain ⟨a', c', w2, hrun, hO, hG⟩ := append_one x (.inl h.o) h.lt.size (by omega)
  refine ⟨a', c', w2, hrun, hO, h.s.but hG.but (fun k hk ha => h.ap k ha hk), fun k hk hb => ?_, h.lt.trans (hG.below h.o h.lt.size)⟩
  rcases hG.on k hk with h1 | h1
  · exact h.ap k h1 hb
  · have := h.s.lt k hb
    omega
/-- Behind the second. -/
theorem Two.out2 {w w2 w3 w4 : World} {a b r : Option Addr} {i c j d p q : Nat} {O S R : List Int} {x : Int} (h : Two w w2 a b i c (j + 1) d O (S ++ [x])) (hb : Below w2.heap.size w2 w3) (hr : But (Blk r) w3 w4) (hR3 : ∀ k, Blk r k → w2.heap.size ≤ k) (hR : Own w4 w2.heap.size 3 r p q (ints R)) (hi : j + p ≤ 4096) :
    ∃ b' d' w5, (Builtin.append_ #[135, 135] 135 #[.slice b j d, .slice r p q]).run Try.prog w4 = .ok (.slice b' (j + p) d') w5 ∧ Two w w5 a b' i c (j + p) d' O (S ++ R) := by
  have hlS : S.length = j := by
    have := h.s.len
    rw [ints_length, List.length_append, List.length_singleton] at this
    omega
  have hb4 : But (Blk r) w2 w4 := (But.of hb).trans hr
  have ho4 : Own w4 w.heap.size 3 a i c (ints O) := h.o.but hb4 (fun k hk hk2 => by have := hR3 k hk2; have := h.o.lt k hk; omega)
  have hs4 : Own w4 w.heap.size 3 b (j + 1) d (ints (S ++ [x])) := h.s.but hb4 (fun k hk hk2 => by have := hR3 k hk2; have := h.s.lt k hk; omega)
  have hs5 := hs4.sub (m := j) (by omega)
  rw [show (ints (S ++ [x])).take j = ints S by rw [ints_append, List.take_left' (by rw [ints_length]; exact hlS)]] at hs5
  have hB4 : Below w.heap.size w w4 := (But.below (h.lt.trans (hb.mono h.lt.size)) hr (fun k hk => by have := hR3 k hk; have := h.lt.size; omega))
  obtain ⟨b', d', w5, hrun, hO, hG⟩ := append_ints hs5 hR.read hB4.size (by omega)
  refine ⟨b', d', w5, hrun, ho4.but hG.but (fun k hk ha => h.ap k hk ha), by rw [ints_append]; exact hO, fun k hk hb2 => ?_, hB4.trans (hG.below hs5 hB4.size)⟩
  rcases hG.on k hb2 with h1 | h1
  · exact h.ap k hk h1
  · have := ho4.lt k hk
    omega
theorem snoc_of {S : List Int} (h : S ≠ []) : ∃ S' x, S = S' ++ [x] := ⟨S.dropLast, S.getLast h, (List.dropLast_concat_getLast h).symm⟩
set_option maxRecDepth 100000 in
set_option maxHeartbeats 1600000 in
theorem subtree_any {w : World} {g gb m : Nat} {l : Fo} (h : Ki w g gb m l) (n : Int) (e : Bool) :
    Calls Try.prog 80 #[.pointer (some ⟨g, 0, none⟩), .int .i64 n, .bool e] w fun r w' => ∃ a k cap, r = .returned (.slice a k cap) ∧ Own w' w.heap.size 3 a k cap (ints (G e l n)) ∧ Below w.heap.size w w' := by
  have hh := has_any h n
  have hbig := h.big
  have hok := hid h.ok
  by_cases hn : n ∈ nums l
  · rw [decide_eq_true hn] at hh
    have hgl := Nat.le_trans (G_len hok.out e n) hbig
    have HK := hid h
    have HN := hid hn
    clear h hn
    go_enter Try.func80, Try.ntmps80
    go_upto_region 5 with (first | (go_at_call 59; refine hh.mono ?_; rintro e w1 ⟨rfl, rfl⟩))
    clear hh
    go_loopg [7, 8] (G e l n).length (SubRel w1 l e n)
    case atStart => exact ⟨[], [n], none, some ⟨w1.heap.size, 0, none⟩, 0, 0, 1, 1, rfl, rfl, by omega, Sub.start HN.out, Own.nil _ _ _, Own.one_new w1 n, fun k hk => (by obtain ⟨_, h, _⟩ := hk; cases h), below1 _ _⟩
    case round =>
      obtain ⟨O, S, a, b, i, c, j, d, rfl, rfl, hik, hS, hT⟩ := hrel
      have hlO := hT.o.len
      have hlS := hT.s.len
      rw [ints_length] at hlO hlS
      have hsl := hS.len hok.out
      by_cases hj : j = 0
      · subst hj
        have hS0 : S = [] := List.eq_nil_of_length_eq_zero hlS
        subst hS0
        have HE := hid hS.end_
        have HT := hid hT
        clear hT hS
        go_wp2
        go_ret
        exact ⟨a, i, c, rfl, by rw [← HE.out]; exact HT.out.o, HT.out.lt⟩
      · obtain ⟨S', x, rfl⟩ := snoc_of (S := S) (fun hz => by rw [hz] at hlS; simp at hlS; omega)
        obtain ⟨j, rfl⟩ : ∃ j', j = j' + 1 := ⟨j - 1, by omega⟩
        rw [List.length_append, List.length_singleton] at hlS hsl
        obtain ⟨a', c', w2, hrun, hT2⟩ := hT.out1 x (by omega)
        obtain ⟨b0, rfl⟩ := hT.s.form (by omega)
        obtain ⟨_, e1, hL1⟩ := hT.s.lies rfl (j := j) (u := .int .i64 x) (by rw [ints_append, List.getElem?_append_right (by rw [ints_length]; omega)]; simp [show S'.length = j by omega, ints])
        cases e1
        obtain ⟨_, e2, hL2⟩ := hT2.s.lies rfl (j := j) (u := .int .i64 x) (by rw [ints_append, List.getElem?_append_right (by rw [ints_length]; omega)]; simp [show S'.length = j by omega, ints])
        cases e2
        have y1 := hL1.1
        have y2 := hL2.1
        have hcap : j ≤ d := by have := hT.s.read.cap_; omega
        have HRUN := hid hrun
        have HT2 := hid hT2
        have HC := hid (children_any (HK.out.later hT2.lt) x)
        have hkl := kids_len hok.out x
        have hki := kids_in hok.out (hS.inn x (by simp))
        have HST := hid (hS.step hok.out)
        rw [← hki] at HST
        generalize kids l x = R at HC HST hkl
        clear hrun hT2 hT hL1 hL2 hki
        have hjR : j + R.length ≤ 4096 := by omega
        cases e
        · go_wp2_with (first | (have hq_ := HT5; clear hq_; at_builtin; refine wpList_append_known rfl _ _ 135 rfl _ _ rfl rfl _ w5 HRUN2.out ?_) | (at_builtin; refine wpList_append_known rfl _ _ 135 rfl _ _ rfl rfl _ w2 HRUN.out ?_) | (go_at_call 93; refine HC.out.mono ?_; rintro e w3 ⟨r, p, q, rfl, hO3, hB3⟩; have hlp := hO3.len; rw [ints_length] at hlp; obtain ⟨b', d', w5, hrun2, hT5⟩ := Two.out2 HT2.out hB3 (But.refl _ _) hO3.blk hO3 (by omega); have HRUN2 := hid hrun2; have HT5 := hid hT5; clear hrun2 hT5 hO3 hB3))
          go_roundg (gk - 1)
          case measure => omega
          case rel => exact ⟨O ++ [x], S' ++ R, a', b', i + 1, c', j + p, d', rfl, rfl, by omega, by have := HST.out; simpa [ord] using this, HT5.out⟩
        · go_wp2_with (first | (have hq_ := HT5; clear hq_; at_builtin; refine wpList_append_known rfl _ _ 135 rfl _ _ rfl rfl _ w5 HRUN2.out ?_) | (at_builtin; refine wpList_append_known rfl _ _ 135 rfl _ _ rfl rfl _ w2 HRUN.out ?_) | (go_at_call 93; refine HC.out.mono ?_; rintro e w3 ⟨r, p, q, rfl, hO3, hB3⟩; have hlp := hO3.len; rw [ints_length] at hlp; have HO3 := hid hO3; have HB3 := hid hB3; clear hO3 hB3) | (go_at_call 81; refine (rev_any HO3.out (by omega)).mono ?_; rintro e w4 ⟨⟨v4, rfl⟩, hO4, hb4⟩; obtain ⟨b', d', w5, hrun2, hT5⟩ := Two.out2 HT2.out HB3.out hb4 HO3.out.blk hO4 (by omega); have HRUN2 := hid hrun2; have HT5 := hid hT5; clear hrun2 hT5 hO4 hb4))
          go_roundg (gk - 1)
          case measure => omega
          case rel => exact ⟨O ++ [x], S' ++ R.reverse, a', b', i + 1, c', j + p, d', rfl, rfl, by omega, by have := HST.out; simpa [ord] using this, HT5.out⟩
  · rw [decide_eq_false hn] at hh
    rw [G_out hn]
    clear h hn
    go_enter Try.func80, Try.ntmps80
    go_wp2_with (first | (go_at_call 59; refine hh.mono ?_; rintro e w1 ⟨rfl, rfl⟩))
    go_ret
    exact ⟨none, 0, 0, rfl, Own.nil _ _ _, Below.refl _ _⟩
end Go.Proofs.Ytlelglfdamakaaa
