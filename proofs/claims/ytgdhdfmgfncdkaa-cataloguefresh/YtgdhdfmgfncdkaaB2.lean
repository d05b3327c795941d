import Derived.Test.YtgdhdfmgfncdkaaB1
namespace Go.Proofs.Ytgdhdfmgfncdkaa
open Go.RowKit
set_option linter.unusedVariables false

theorem Ki.big {w : World} {g gb m : Nat} {l : Fo} (h : Ki w g gb m l) : m ≤ 1024 := by
  obtain ⟨N, h1, _⟩ := h
  exact h1.big
theorem Ki.lt {w : World} {g gb m : Nat} {l : Fo} (h : Ki w g gb m l) : g < w.heap.size ∧ gb < w.heap.size := by
  obtain ⟨N, h1, _⟩ := h
  exact ⟨h1.lt, h1.lt2⟩
theorem Own.one_new (w : World) (x : Int) : Own (w.alloc (Obj.cells #[.int .i64 x] 3)) w.heap.size 3 (some ⟨w.heap.size, 0, none⟩) 1 1 (ints [x]) :=
  ⟨⟨rfl, .inr ⟨w.heap.size, 1, #[.int .i64 x], rfl, Nat.le_refl _, heap_alloc_new w _, Nat.le_refl _, by unfold maxLen; omega, rfl, rfl⟩⟩, ints_one _⟩
theorem fm_ge {m : Nat} {l : Fo} (h : Ok m l) {e : Bool} : ∀ {S : List Int}, (∀ x ∈ S, x ∈ nums l) → S.length ≤ (S.flatMap (G e l)).length
  | [], _ => Nat.zero_le _
  | x :: S, hs => by
    have h1 := fm_ge h (e := e) (S := S) (fun y hy => hs y (by simp [hy]))
    rw [List.flatMap_cons, List.length_append, List.length_cons, G_eq h (hs x (by simp)), List.length_cons]
    omega
/-- The state of the walk: what was told, what waits. -/
structure Sub (l : Fo) (e : Bool) (n : Int) (O S : List Int) : Prop where
  sum : O ++ S.reverse.flatMap (G e l) = G e l n
  inn : ∀ x ∈ S, x ∈ nums l
theorem Sub.start {l : Fo} {e : Bool} {n : Int} (hn : n ∈ nums l) : Sub l e n [] [n] := ⟨by simp, fun x hx => by rw [List.mem_singleton] at hx; rw [hx]; exact hn⟩
theorem Sub.step {m : Nat} {l : Fo} (h : Ok m l) {e : Bool} {n x : Int} {O S : List Int} (hs : Sub l e n O (S ++ [x])) : Sub l e n (O ++ [x]) (S ++ (ord e (ch l x)).reverse) := by
  have hx := hs.inn x (by simp)
  refine ⟨?_, fun y hy => ?_⟩
  · rw [← hs.sum]
    simp [G_eq h hx]
  · rw [List.mem_append, List.mem_reverse, mem_ord] at hy
    rcases hy with hy | hy
    · exact hs.inn y (by simp [hy])
    · exact ch_mem hy
theorem Sub.len {m : Nat} {l : Fo} (h : Ok m l) {e : Bool} {n : Int} {O S : List Int} (hs : Sub l e n O S) : O.length + S.length ≤ (G e l n).length := by
  have h1 := fm_ge h (e := e) (S := S.reverse) (fun x hx => hs.inn x (List.mem_reverse.1 hx))
  rw [← hs.sum, List.length_append]
  rw [List.length_reverse] at h1
  omega
theorem Sub.end_ {l : Fo} {e : Bool} {n : Int} {O : List Int} (hs : Sub l e n O []) : O = G e l n := by have := hs.sum; simpa using this
/-- Two lists in memory of their own. -/
structure Two (w w' : World) (a b : Option Addr) (i c j d : Nat) (O S : List Int) : Prop where
  o : Own w' w.heap.size 3 a i c (ints O)
  s : Own w' w.heap.size 3 b j d (ints S)
  ap : ∀ k, Blk a k → ¬ Blk b k
  lt : Below w.heap.size w w'
def SubRel (w : World) (l : Fo) (e : Bool) (n : Int) (k : Nat) (v t : Value) (w' : World) : Prop :=
  ∃ (O S : List Int) (a b : Option Addr) (i c j d : Nat), v = .slice a i c ∧ t = .slice b j d ∧ i + k = (G e l n).length ∧ Sub l e n O S ∧ Two w w' a b i c j d O S
/-- Behind the first append. -/
theorem Two.out1 {w wr : World} {a b : Option Addr} {i c j d : Nat} {O S : List Int} (h : Two w wr a b i c j d O S) (x : Int) (hi : i ≤ 2048) :
    ∃ a' c' w2, (Builtin.append_ #[88, 88] 88 #[.slice a i c, .slice (some ⟨wr.heap.size, 0, none⟩) 1 1]).run Try.prog (wr.alloc (Obj.cells #[.int .i64 x] 3)) = .ok (.slice a' (i + 1) c') w2 ∧ Two w w2 a' b (i + 1) c' j d (O ++ [x]) S := by
  obtain ⟨a', c', w2, hrun, hO, hG⟩ := append_one x (.inl h.o) h.lt.size (by omega)
  refine ⟨a', c', w2, hrun, hO, h.s.but hG.but (fun k hk ha => h.ap k ha hk), fun k hk hb => ?_, h.lt.trans (hG.below h.o h.lt.size)⟩
  rcases hG.on k hk with h1 | h1
  · exact h.ap k h1 hb
  · have := h.s.lt k hb
    omega
/-- Behind the second. -/
theorem Two.out2 {w w2 w3 w4 : World} {a b r : Option Addr} {i c j d p q : Nat} {O S R : List Int} {x : Int} (h : Two w w2 a b i c (j + 1) d O (S ++ [x])) (hb : Below w2.heap.size w2 w3) (hr : But (Blk r) w3 w4) (hR3 : ∀ k, Blk r k → w2.heap.size ≤ k) (hR : Own w4 w2.heap.size 3 r p q (ints R)) (hi : j + p ≤ 4096) :
    ∃ b' d' w5, (Builtin.append_ #[88, 88] 88 #[.slice b j d, .slice r p q]).run Try.prog w4 = .ok (.slice b' (j + p) d') w5 ∧ Two w w5 a b' i c (j + p) d' O (S ++ R) := by
  have hlS : S.length = j := by
    have := h.s.len
    rw [ints_length, List.length_append, List.length_singleton] at this
    omega
  have hb4 : But (Blk r) w2 w4 := (But.of hb).trans hr
  have ho4 : Own w4 w.heap.size 3 a i c (ints O) := h.o.but hb4 (fun k hk hk2 => by have := hR3 k hk2; have := h.o.lt k hk; omega)
  have hs4 : Own w4 w.heap.size 3 b (j + 1) d (ints (S ++ [x])) := h.s.but hb4 (fun k hk hk2 => by have := hR3 k hk2; have := h.s.lt k hk; omega)
  have hs5 := hs4.sub (m := j) (by omega)
  rw [show (ints (S ++ [x])).take j = ints S by rw [ints_append, List.take_left' (by rw [ints_length]; exact hlS)]] at hs5
  have hB4 : Below w.heap.size w w4 := (But.below (h.lt.trans (hb.mono h.lt.size)) hr (fun k hk => by have := hR3 k hk; have := h.lt.size; omega))
  obtain ⟨b', d', w5, hrun, hO, hG⟩ := append_ints hs5 hR.read hB4.size (by omega)
  refine ⟨b', d', w5, hrun, ho4.but hG.but (fun k hk ha => h.ap k hk ha), by rw [ints_append]; exact hO, fun k hk hb2 => ?_, hB4.trans (hG.below hs5 hB4.size)⟩
  rcases hG.on k hb2 with h1 | h1
  · exact h.ap k hk h1
  · have := ho4.lt k hk
    omega
theorem snoc_of {S : List Int} (h : S ≠ []) : ∃ S' x, S = S' ++ [x] := ⟨S.dropLast, S.getLast h, (List.dropLast_concat_getLast h).symm⟩
set_option maxRecDepth 100000 in
set_option maxHeartbeats 1600000 in
theorem subtree_any {w : World} {g gb m : Nat} {l : Fo} (h : Ki w g gb m l) (n : Int) (e : Bool) :
    Calls Try.prog 68 #[.pointer (some ⟨g, 0, none⟩), .int .i64 n, .bool e] w fun r w' => ∃ a k cap, r = .returned (.slice a k cap) ∧ Own w' w.heap.size 3 a k cap (ints (G e l n)) ∧ Below w.heap.size w w' := by
  have hh := has_any h n
  have hbig := h.big
  have hok := hid h.ok
  by_cases hn : n ∈ nums l
  · rw [decide_eq_true hn] at hh
    have hgl := Nat.le_trans (G_len hok.out e n) hbig
    have HK := hid h
    have HN := hid hn
    clear h hn
    go_enter Try.func68, Try.ntmps68
    go_upto_region 5 with (first | (go_at_call 47; refine hh.mono ?_; rintro e w1 ⟨rfl, rfl⟩))
    clear hh
    go_loopg [7, 8] (G e l n).length (SubRel w1 l e n)
    case atStart => exact ⟨[], [n], none, some ⟨w1.heap.size, 0, none⟩, 0, 0, 1, 1, rfl, rfl, by omega, Sub.start HN.out, Own.nil _ _ _, Own.one_new w1 n, fun k hk => (by obtain ⟨_, h, _⟩ := hk; cases h), below1 _ _⟩
    case round =>
      obtain ⟨O, S, a, b, i, c, j, d, rfl, rfl, hik, hS, hT⟩ := hrel
      have hlO := hT.o.len
      have hlS := hT.s.len
      rw [ints_length] at hlO hlS
      have hsl := hS.len hok.out
      by_cases hj : j = 0
      · subst hj
        have hS0 : S = [] := List.eq_nil_of_length_eq_zero hlS
        subst hS0
        have HE := hid hS.end_
        have HT := hid hT
        clear hT hS
        go_wp2
        go_ret
        exact ⟨a, i, c, rfl, by rw [← HE.out]; exact HT.out.o, HT.out.lt⟩
      · obtain ⟨S', x, rfl⟩ := snoc_of (S := S) (fun hz => by rw [hz] at hlS; simp at hlS; omega)
        obtain ⟨j, rfl⟩ : ∃ j', j = j' + 1 := ⟨j - 1, by omega⟩
        rw [List.length_append, List.length_singleton] at hlS hsl
        obtain ⟨a', c', w2, hrun, hT2⟩ := hT.out1 x (by omega)
        obtain ⟨b0, rfl⟩ := hT.s.form (by omega)
        obtain ⟨_, e1, hL1⟩ := hT.s.lies rfl (j := j) (u := .int .i64 x) (by rw [ints_append, List.getElem?_append_right (by rw [ints_length]; omega)]; simp [show S'.length = j by omega, ints])
        cases e1
        obtain ⟨_, e2, hL2⟩ := hT2.s.lies rfl (j := j) (u := .int .i64 x) (by rw [ints_append, List.getElem?_append_right (by rw [ints_length]; omega)]; simp [show S'.length = j by omega, ints])
        cases e2
        have y1 := hL1.1
        have y2 := hL2.1
        have hcap : j ≤ d := by have := hT.s.read.cap_; omega
        have HRUN := hid hrun
        have HT2 := hid hT2
        have HC := hid (children_any (HK.out.later hT2.lt) x)
        have hkl := kids_len hok.out x
        have hki := kids_in hok.out (hS.inn x (by simp))
        have HST := hid (hS.step hok.out)
        rw [← hki] at HST
        generalize kids l x = R at HC HST hkl
        clear hrun hT2 hT hL1 hL2 hki
        have hjR : j + R.length ≤ 4096 := by omega
        cases e
        · go_wp2_with (first | (have hq_ := HT5; clear hq_; at_builtin; refine wpList_append_known rfl _ _ 88 rfl _ _ rfl rfl _ w5 HRUN2.out ?_) | (at_builtin; refine wpList_append_known rfl _ _ 88 rfl _ _ rfl rfl _ w2 HRUN.out ?_) | (go_at_call 78; refine HC.out.mono ?_; rintro e w3 ⟨r, p, q, rfl, hO3, hB3⟩; have hlp := hO3.len; rw [ints_length] at hlp; obtain ⟨b', d', w5, hrun2, hT5⟩ := Two.out2 HT2.out hB3 (But.refl _ _) hO3.blk hO3 (by omega); have HRUN2 := hid hrun2; have HT5 := hid hT5; clear hrun2 hT5 hO3 hB3))
          go_roundg (gk - 1)
          case measure => omega
          case rel => exact ⟨O ++ [x], S' ++ R, a', b', i + 1, c', j + p, d', rfl, rfl, by omega, by have := HST.out; simpa [ord] using this, HT5.out⟩
        · go_wp2_with (first | (have hq_ := HT5; clear hq_; at_builtin; refine wpList_append_known rfl _ _ 88 rfl _ _ rfl rfl _ w5 HRUN2.out ?_) | (at_builtin; refine wpList_append_known rfl _ _ 88 rfl _ _ rfl rfl _ w2 HRUN.out ?_) | (go_at_call 78; refine HC.out.mono ?_; rintro e w3 ⟨r, p, q, rfl, hO3, hB3⟩; have hlp := hO3.len; rw [ints_length] at hlp; have HO3 := hid hO3; have HB3 := hid hB3; clear hO3 hB3) | (go_at_call 69; refine (rev_any HO3.out (by omega)).mono ?_; rintro e w4 ⟨⟨v4, rfl⟩, hO4, hb4⟩; obtain ⟨b', d', w5, hrun2, hT5⟩ := Two.out2 HT2.out HB3.out hb4 HO3.out.blk hO4 (by omega); have HRUN2 := hid hrun2; have HT5 := hid hT5; clear hrun2 hT5 hO4 hb4))
          go_roundg (gk - 1)
          case measure => omega
          case rel => exact ⟨O ++ [x], S' ++ R.reverse, a', b', i + 1, c', j + p, d', rfl, rfl, by omega, by have := HST.out; simpa [ord] using this, HT5.out⟩
  · rw [decide_eq_false hn] at hh
    rw [G_out hn]
    clear h hn
    go_enter Try.func68, Try.ntmps68
    go_wp2_with (first | (go_at_call 47; refine hh.mono ?_; rintro e w1 ⟨rfl, rfl⟩))
    go_ret
    exact ⟨none, 0, 0, rfl, Own.nil _ _ _, Below.refl _ _⟩
end Go.Proofs.Ytgdhdfmgfncdkaa
