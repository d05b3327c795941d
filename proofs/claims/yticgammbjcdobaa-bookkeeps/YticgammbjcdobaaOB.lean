import Derived.Test.YticgammbjcdobaaOA
namespace Go.Proofs.Yticgammbjcdobaa
open Go.RowKit
set_option linter.unusedVariables false
set_option linter.unusedSimpArgs false
theorem Bw.but {S : Nat → Prop} {w w' : World} {m : Bm} (h : Bw w m) (hb : But S w w') (h1 : ∀ j ∈ m.blks, ¬ S j) (h2 : ∀ x ∈ m.I, ∀ j, Blk x.s.a j → ¬ S j) (h3 : ∀ x ∈ m.K, ∀ j, Blk x.s.a j → ¬ S j) : Bw w' m :=
  ⟨h.bx.but hb (h1 _ (by simp [Bm.blks])), h.live.but hb (fun j hj => h1 j (List.mem_append.2 (.inl hj))), h.laid.but hb (fun j hj => h1 j (List.mem_append.2 (.inr (List.mem_append.2 (.inr (rest_a hj)))))), h.told.but hb (fun j hj => h1 j (List.mem_append.2 (.inr (List.mem_append.2 (.inl hj))))),
    ⟨h.lists.out.but hb (h1 _ (by simp [Bm.blks])), fun k hk => ⟨(h.lists.each k hk).1.but hb (fun j hj => h2 k hk j hj), (h.lists.each k hk).2⟩, h.lists.dis⟩, ⟨h.known.out.but hb (h1 _ (by simp [Bm.blks])), fun k hk => ⟨(h.known.each k hk).1.but hb (fun j hj => h3 k hk j hj), (h.known.each k hk).2⟩, h.known.dis⟩, h.dis, fun j hj => Nat.lt_of_lt_of_le (h.lo j hj) hb.size, h.ap⟩
/-- A book of creations stays where rows of capabilities of one's own are changed. -/
theorem Kp.row {w w' : World} {m : Bm} {l : List Cp} (h : Kp w m l) {base : Nat} {a : Option Addr} {n c : Nat} {L : List Value} (ho : Ow w base 31 3 a n c L) (hg : m.g < base) (hK : ∀ k ∈ m.K, ∀ j, Blk k.s.a j → ¬ Blk a j) (hb : But (Blk a) w w') : Kp w' m l := by
  refine ⟨h.bw.but hb (fun j hj hs => h.bw.cells ho hg j hs hj) (fun x hx => by rw [h.i0] at hx; cases hx) hK, h.n, h.lo, h.ok, h.i0, ?_⟩
  rcases h.tk with h' | ⟨g, k0, hz, h1, h2, h3, h4, h5, h6, h7⟩
  · exact .inl h'
  · refine .inr ⟨g, k0, hz, h1, h2, h3, h4, h5, fun i c hc => ?_, h7⟩
    obtain ⟨kt, hm, ht⟩ := h6 i c hc
    exact ⟨kt, hm, ht.but hb (ht.row ho)⟩
/-- A list of rows of one's own lengthened by q. -/
theorem ow_apps (t e : TypeId) (z : Value) (k by_ : Nat) (ht : Try.prog.underlying t = some (.slice e)) (hinf : (Try.prog.info? e).map (fun i => (i.zero, i.size, i.bytes)) = some (some z, k, by_)) (hzs : z.cells.size = k) (hk : 0 < k)
    {w : World} {base : Nat} {a : Option Addr} {n cap q : Nat} {L cs : List Value} (h : Ow w base e k a n cap L) (hl : cs.length = q * k) (h1 : ∀ u ∈ cs, u.oneCell' = true) (hb : base ≤ w.heap.size) (hn : n + q ≤ 100000) (hby : by_ ≤ 1000) :
    ∃ a' c' w', (Builtin.append_ #[t, t] t #[.slice a n cap, .slice (some ⟨w.heap.size, 0, none⟩) q q]).run Try.prog (w.alloc (Obj.cells cs.toArray e)) = .ok (.slice a' (n + q) c') w' ∧ Ow w' base e k a' (n + q) c' (L ++ cs) ∧ But (Blk a) w w' ∧ ∀ j, Blk a' j → Blk a j ∨ w.heap.size ≤ j := by
  obtain ⟨i, hi, hz0, hz1, hz2⟩ := info_parts hinf
  have hb1 := below1 w (Obj.cells cs.toArray e)
  have hbyt : (n + q) * by_ ≤ 140737488355328 := by
    have := Nat.mul_le_mul hn hby
    omega
  obtain ⟨v', w', hr, h2, h3, _, h5⟩ := run_append_own_at (P := Try.prog) (w.alloc (Obj.cells cs.toArray e)) base t t e i z k by_ ht hi hz0 hz1 hz2 hzs hk _ n _ (h.later hb1) ⟨w.heap.size, 0, none⟩ q q cs hl (fun j u hu => by
    rw [addr_add0]
    have := rangeAt_new w cs e j u hu
    rw [Nat.zero_add] at this
    exact this) h1 (by unfold maxLen; omega) hbyt (by simp; omega)
  obtain ⟨a', c', rfl⟩ : ∃ a' c', v' = .slice a' (n + q) c' := by
    rcases h2.2 with ⟨h, h'⟩ | ⟨g', cap', _, h, _⟩
    · exact ⟨.none, 0, by rw [h, h']⟩
    · exact ⟨_, cap', h⟩
  have hbut : But (Blk a) (w.alloc (Obj.cells cs.toArray e)) w' := ⟨h3.os, h3.tape, h3.output, h3.size, fun j hj hn => h3.block j hj (fun e => hn (Blk.of.1 e.symm))⟩
  refine ⟨a', c', w', hr, h2, (But.of hb1).trans hbut, fun j hj => ?_⟩
  rcases h5 with h5 | h5
  · rw [Blk.of.2 hj] at h5
    exact .inl (Blk.of.1 h5.symm)
  · rw [Blk.of.2 hj] at h5
    right
    simp at h5
    omega
theorem infoCp : (Try.prog.info? 31).map (·.size) = some 3 := by kernel_rfl
theorem stCp {w : World} {b o : Nat} {L : List Value} (h : w.there b o 3) (hl : L.length = 3) (h1 : ∀ v ∈ L, v.oneCell' = true) : (Instr.storeAt 31 (.pointer (some ⟨b, o, none⟩)) (.agg L.toArray)).run Try.prog w = .ok () (w.setCells b o L) :=
  run_storeAt_mid w b o 31 L.toArray (by simpa [hl] using h) (by rw [infoCp]; simp [hl]) (all_oneCell_toArray h1)
/-- Numbers of 64 bits that are read. -/
structure Ws (w : World) (a : Option Addr) (n : Nat) (X : List Nat) : Prop where
  len : X.length = n
  each : ∀ (i x : Nat), X[i]? = some x → ∃ b o, a = some ⟨b, o, none⟩ ∧ w.cell? ⟨b, o + i, none⟩ = some (.int .u64 (x : Int)) ∧ x < 18446744073709551616
theorem Ws.later {w w' : World} {a : Option Addr} {n : Nat} {X : List Nat} (h : Ws w a n X) (hb : Below w.heap.size w w') : Ws w' a n X := ⟨h.len, fun i x hx => by
  obtain ⟨b, o, e, hc, hl⟩ := h.each i x hx
  exact ⟨b, o, e, by rw [hb.cell (World.block_lt_of_cell? _ _ hc)]; exact hc, hl⟩⟩
theorem capsL_app (l m : List Cp) : capsL (l ++ m) = capsL l ++ capsL m := by simp [capsL]
theorem capsL_one (c : Cp) : capsL [c] = [.int .i64 c.o, .int .u64 (c.h : Int), .int .u64 (c.l : Int)] := by simp [capsL, encC]
/-- The law's own list and the book, both in new memory. -/
structure Bl (w0 : World) (g : Nat) (U : World) (m : Bm) (l : List Cp) (a : Option Addr) (c : Nat) : Prop where
  kp : Kp U m l
  eg : m.g = g
  ow : Ow U (g + 1) 31 3 a l.length c (capsL l)
  dis : ∀ k ∈ m.K, ∀ j, Blk k.s.a j → ¬ Blk a j
  lo : (∀ j ∈ m.blks, w0.heap.size ≤ j) ∧ ∀ k ∈ m.K, ∀ j, Blk k.s.a j → w0.heap.size ≤ j
  be : Below w0.heap.size w0 U
theorem Bl.gl {w0 U : World} {g : Nat} {m : Bm} {l : List Cp} {a : Option Addr} {c : Nat} (h : Bl w0 g U m l a c) : w0.heap.size ≤ g := by
  have := h.lo.1 m.g (by simp [Bm.blks])
  have := h.eg
  omega
theorem Bl.later {w0 U V : World} {g : Nat} {m : Bm} {l : List Cp} {a : Option Addr} {c : Nat} (h : Bl w0 g U m l a c) (hb : Below U.heap.size U V) : Bl w0 g V m l a c := ⟨h.kp.later hb, h.eg, h.ow.later hb, h.dis, h.lo, below_call h.be hb⟩
/-- One more is appended to the law's list, then noted. -/
theorem Bl.app {w0 U : World} {g : Nat} {m : Bm} {l : List Cp} {a : Option Addr} {c : Nat} (h : Bl w0 g U m l a c) (x : Cp) (hl : l.length < 100) :
    ∃ a' c' w7, (Builtin.append_ #[26, 26] 26 #[.slice a l.length c, .slice (some ⟨U.heap.size, 0, none⟩) 1 1]).run Try.prog (U.alloc (Obj.cells #[.int .i64 x.o, .int .u64 (x.h : Int), .int .u64 (x.l : Int)] 31)) = .ok (.slice a' (l.length + 1) c') w7 ∧ Kp w7 m l ∧ Ow w7 (g + 1) 31 3 a' (l.length + 1) c' (capsL (l ++ [x])) ∧ (∀ k ∈ m.K, ∀ j, Blk k.s.a j → ¬ Blk a' j) ∧ But (Blk a) U w7 := by
  have hlo := h.kp.bw.lo m.g (by simp [Bm.blks])
  obtain ⟨a', c', w7, r7, o7, b7, n7⟩ := ow_snoc 26 31 _ 3 24 Try.underlying26 infoC3 rfl (by omega) (cs := [.int .i64 x.o, .int .u64 (x.h : Int), .int .u64 (x.l : Int)]) h.ow rfl (one3 _ _ _) (by have := h.eg; omega) (by omega) (by omega)
  refine ⟨a', c', w7, r7, h.kp.row h.ow (by have := h.eg; omega) h.dis b7, by rw [capsL_app, capsL_one]; exact o7, fun k hk j hj hj2 => ?_, b7⟩
  rcases n7 j hj2 with h1 | h1
  · exact h.dis k hk j hj h1
  · have := ((h.kp.bw.known.each k hk).1.blk j hj).2
    omega
theorem Bl.note {w0 U : World} {g : Nat} {m : Bm} {l : List Cp} {a : Option Addr} {c : Nat} (x : Cp) (hk : Kp U m l) (hg : m.g = g) (ho : Ow U (g + 1) 31 3 a (l.length + 1) c (capsL (l ++ [x]))) (hd : ∀ k ∈ m.K, ∀ j, Blk k.s.a j → ¬ Blk a j) (hlo : (∀ j ∈ m.blks, w0.heap.size ≤ j) ∧ ∀ k ∈ m.K, ∀ j, Blk k.s.a j → w0.heap.size ≤ j) (hbe : Below w0.heap.size w0 U) (hx : x.o = (l.length : Int) + 1) (hf : x.far) (hl : l.length < 100) (C : List Value) (hC : C.length = 13) (h0 : C[0]? = some (.int .i64 1)) (h1 : C[1]? = some (.int .i64 0)) (d : Sl) (nu : Int) :
    Calls Try.prog 7 #[.pointer (some ⟨g, 0, none⟩), .agg C.toArray, rpV 0 x d nu] U fun e w' => e = .returned (.tuple #[]) ∧ ∃ m', Bl w0 g w' m' (l ++ [x]) a c := by
  subst hg
  refine (hk.note x hx hf hl C hC h0 h1 d nu).mono ?_
  rintro e w' ⟨rfl, m', hk', hg', hr, hb', hbut⟩
  refine ⟨rfl, m', hk', hg', ?_, ?_, ?_, ?_⟩
  · rw [List.length_append]
    exact ho.but hbut (fun j hj hj2 => by
      rcases hj2 with hj2 | ⟨k, hkk, hj2⟩
      · exact hk.bw.cells ho (by omega) j hj hj2
      · exact hd k hkk j hj2 hj)
  · intro k hkk j hj hj2
    rcases hr k hkk j hj with ⟨k2, hk2, h3⟩ | h3
    · exact hd k2 hk2 j h3 hj2
    · have := (ho.blk j hj2).2
      omega
  · refine ⟨fun j hj => ?_, fun k hkk j hj => ?_⟩
    · rcases hb' j hj with h3 | h3
      · exact hlo.1 j h3
      · exact Nat.le_trans hbe.size h3
    · rcases hr k hkk j hj with ⟨k2, hk2, h3⟩ | h3
      · exact hlo.2 k2 hk2 j h3
      · exact Nat.le_trans hbe.size h3
  · exact But.below hbe hbut (fun j hj => by
      rcases hj with hj | ⟨k, hkk, hj⟩
      · exact hlo.1 j hj
      · exact hlo.2 k hkk j hj)
end Go.Proofs.Yticgammbjcdobaa
