import Derived.Test.YticgammbjcdobaaRI
namespace Go.Proofs.Yticgammbjcdobaa
open Go.RowKit
set_option linter.unusedVariables false
set_option linter.unusedSimpArgs false
/-! What a revoke takes away. -/
abbrev dlv (o : Int) (k : Nat × Nat) (B : Bv) : Bv := { B with live := up2 B.live o k none }
def rvS (o : Int) (B : Bv) (t : Tn) : Bv := if (B.live o (t.ph, t.pl)).isSome then B else dlv o (t.h, t.l) B
def rvB (o : Int) (B : Bv) (ts : List Tn) : Bv := ts.foldl (rvS o) B
theorem Mg.uniq {w : World} {tk tk' : TypeId} {b : Nat} {E E' : List (Value × Value)} (h : Mg w tk b E) (h' : Mg w tk' b E') : E = E' := by
  obtain ⟨es, clk, h1, h2⟩ := h.ex
  obtain ⟨es', clk', h3, h4⟩ := h'.ex
  rw [h1] at h3
  cases h3
  rw [← h2, ← h4]
theorem live_del (m : Bm) (B : Bv) (o : Int) (k : Nat × Nat) (mb : Option Nat) (w : World) (h : Bk w m B) (hin : inV m.L o mb) (hk : wkOk k) :
    ∃ w' m', (Builtin.delete_ #[82, 29] 0 #[.map mb, wkV k]).run Try.prog w = .ok (.tuple #[]) w' ∧ Bk w' m' (dlv o k B) ∧ Tr w w' m m' ∧ m'.cells = m.cells ∧ inV m'.L o mb := by
  cases mb with
  | some b =>
    obtain ⟨g, hg, rfl, rfl⟩ := hin
    obtain ⟨w', G', r, m2, e2, hin, b2, hsz⟩ := h.bw.live.del wkey Try.underlying82 hg (kword hk.1 hk.2) 0 29
    have hS : ∀ j, j = g.b → j ∈ blG m.bl m.L := fun j e => by subst e; exact List.mem_cons_of_mem _ (List.mem_map.2 ⟨g, hg, rfl⟩)
    obtain ⟨k1, t1⟩ := h.live_to b2 hS m2 (fun x hx => .inl (by rw [← e2]; exact List.mem_map.2 ⟨x, hx, rfl⟩)) (h.live.del hin (fun j e => wk_inj e)) (q := B.ct) (fun x hx => by obtain ⟨y, hy, hl⟩ := hsz x hx; exact Nat.le_trans hl (h.cnt y hy))
    have hout := h.bw.live.out.but b2 (fun e => (List.nodup_cons.1 h.bw.live.dis).1 (by rw [e]; exact List.mem_map.2 ⟨g, hg, rfl⟩))
    have he := hout.uniq m2.out
    have hm : (Value.int .i64 g.p, Value.map (some g.b)) ∈ G'.map (fun g => (Value.int .i64 g.p, Value.map (some g.b))) := by rw [← he]; exact List.mem_map.2 ⟨g, hg, rfl⟩
    obtain ⟨g', hg', e'⟩ := List.mem_map.1 hm
    simp only [Prod.mk.injEq, Value.int.injEq, true_and, Value.map.injEq, Option.some.injEq] at e'
    exact ⟨w', _, r, k1, t1, rfl, g', hg', e'.1, e'.2⟩
  | none =>
    have e : dlv o k B = B := by
      have : up2 B.live o k none = B.live := by
        funext q j
        unfold up2
        split
        · rename_i e
          cases hb : B.live q j with
          | none => rfl
          | some a =>
            obtain ⟨x, ⟨g, hg, e2, _⟩, _⟩ := h.live.bwd q j a hb
            exact absurd (e2.trans e.1) (hin g hg)
        · rfl
      unfold dlv
      rw [this]
    rw [e]
    exact ⟨w, m, nil_del w wkey Try.underlying82 (kword hk.1 hk.2) 0 29, h, Tr.refl _ _, rfl, hin⟩
theorem zTkn (w : World) : (zeroValue 77).run Try.prog w = .ok zTn w := by kernel_rfl
theorem live_look (m : Bm) (B : Bv) (o : Int) (k : Nat × Nat) (mb : Option Nat) (w : World) (h : Bk w m B) (hin : inV m.L o mb) (hk : wkOk k) :
    ∃ t : Tn, (Instr.lookup 82 (.map mb) (wkV k) true).run Try.prog w = .ok (.tuple #[t.v, .bool (B.live o k).isSome]) w := by
  have hz : Tn.v ⟨0, 0, 0, 0, 0, 0⟩ = zTn := rfl
  cases mb with
  | some b =>
    obtain ⟨g, hg, rfl, rfl⟩ := hin
    rcases h.live.look g.p k (fun j _ e => wk_inj e) with ⟨e, hn⟩ | ⟨a, v, e, hr, hs⟩
    · refine ⟨⟨0, 0, 0, 0, 0, 0⟩, ?_⟩
      rw [e, hz]
      exact (h.bw.live.inn g hg).miss wkey Try.underlying82 (kword hk.1 hk.2) (fun x hx => gt_none.1 hn x ⟨g, hg, rfl, hx⟩) (zTkn w) true
    · refine ⟨a, ?_⟩
      obtain ⟨g', hg', e2, hx⟩ := hs
      have := h.bw.live.same hg' hg e2
      subst this
      rw [e]
      rw [hr.1] at hx
      exact (h.bw.live.inn g' hg').hit wkey Try.underlying82 hx true
  | none =>
    have e : B.live o k = none := by
      cases hb : B.live o k with
      | none => rfl
      | some a =>
        obtain ⟨x, ⟨g, hg, e2, _⟩, _⟩ := h.live.bwd o k a hb
        exact absurd e2 (hin g hg)
    refine ⟨⟨0, 0, 0, 0, 0, 0⟩, ?_⟩
    rw [e, hz]
    exact nil_miss w wkey Try.underlying82 (kword hk.1 hk.2) (zTkn w) true
/-- What a range over the tokens of an object finds. -/
structure Fnd (B : Bv) (o : Int) (es : Array MapEntry) : Prop where
  val : ∀ e ∈ es.toList, ∃ k t, wkOk k ∧ e.key = wkV k ∧ B.live o k = some t ∧ RL e.val t
  all : ∀ k t, B.live o k = some t → ∃ e ∈ es.toList, RL e.val t
theorem live_src (m : Bm) (B : Bv) (o : Int) (mb : Option Nat) (w : World) (h : Bk w m B) (hin : inV m.L o mb) : ∃ es, Src w mb es ∧ Fnd B o es ∧ es.size ≤ B.ct := by
  cases mb with
  | some b =>
    obtain ⟨g, hg, rfl, rfl⟩ := hin
    have hm := h.bw.live.inn g hg
    obtain ⟨es, clk, h1, h2⟩ := hm.ex
    refine ⟨es, .inr ⟨_, clk, rfl, h1, hm.st es clk h1⟩, ⟨fun e he => ?_, fun k t ht => ?_⟩, ?_⟩
    · have hx : (e.key, e.val) ∈ g.E := by rw [← h2]; exact List.mem_map_of_mem (f := fun e : MapEntry => (e.key, e.val)) he
      obtain ⟨k, a, hk, e1, hf, hr⟩ := h.live.fwd g.p _ ⟨g, hg, rfl, hx⟩
      exact ⟨k, a, hk, e1, hf, hr⟩
    · obtain ⟨x, ⟨g', hg', e2, hx⟩, e3⟩ := h.live.bwd g.p k t ht
      have := h.bw.live.same hg' hg e2
      subst this
      obtain ⟨j, a, hj, e4, hf, hr⟩ := h.live.fwd g'.p x ⟨g', hg', rfl, hx⟩
      have hjk : j = k := wk_inj (by rw [← e4, e3])
      subst hjk
      rw [ht] at hf
      cases hf
      rw [← h2] at hx
      obtain ⟨e, he, e5⟩ := List.mem_map.1 hx
      exact ⟨e, he, by rw [show e.val = x.2 by rw [← e5]]; exact hr⟩
    · have h3 := h.cnt g hg
      rw [← h2] at h3
      simpa using h3
  | none =>
    refine ⟨#[], .inl ⟨rfl, rfl⟩, ⟨fun e he => by simp at he, fun k t ht => ?_⟩, Nat.zero_le _⟩
    obtain ⟨x, ⟨g, hg, e2, _⟩, _⟩ := h.live.bwd o k t ht
    exact absurd e2 (hin g hg)
theorem live_out (m : Bm) (B : Bv) (o : Int) (mb : Option Nat) (w : World) (h : Bk w m B) (hin : inV m.L o mb) (ho : I64 o) : (Instr.lookup 60 (.map (some m.bl)) (.int .i64 o) false).run Try.prog w = .ok (.map mb) w := by
  cases mb with
  | some b =>
    obtain ⟨g, hg, rfl, rfl⟩ := hin
    exact h.bw.live.out.hit ikey Try.underlying60 (List.mem_map.2 ⟨g, hg, rfl⟩) false
  | none =>
    exact h.bw.live.out.miss ikey Try.underlying60 (kint ho) (fun x hx => by
      obtain ⟨g, hg, rfl⟩ := List.mem_map.1 hx
      intro e
      simp at e
      exact hin g hg e) (zLive w) false
theorem live_len (m : Bm) (B : Bv) (o : Int) (mb : Option Nat) (w : World) (h : Bk w m B) (hin : inV m.L o mb) : ∃ n : Nat, (Builtin.len_ #[82] 3 #[.map mb]).run Try.prog w = .ok (.int .i64 (n : Int)) w ∧ (n = 0 ↔ ∀ k, B.live o k = none) ∧ n ≤ B.ct := by
  cases mb with
  | some b =>
    obtain ⟨g, hg, rfl, rfl⟩ := hin
    have hm := h.bw.live.inn g hg
    obtain ⟨es, clk, h1, h2⟩ := hm.ex
    have hl : es.size = g.E.length := by rw [← h2]; simp
    refine ⟨es.size, by simp [Builtin.len_, run_underlying Try.underlying82, MapKept.run_getObj_map h1, goInt, Result.andThen], ⟨fun e k => ?_, fun e => ?_⟩, by rw [hl]; exact h.cnt g hg⟩
    · have hE : g.E = [] := List.eq_nil_of_length_eq_zero (by omega)
      cases hb : B.live g.p k with
      | none => rfl
      | some a =>
        obtain ⟨x, ⟨g', hg', e2, hx⟩, _⟩ := h.live.bwd g.p k a hb
        have := h.bw.live.same hg' hg e2
        subst this
        rw [hE] at hx
        cases hx
    · rw [hl]
      cases hE : g.E with
      | nil => rfl
      | cons x r =>
        obtain ⟨k, a, _, _, hf, _⟩ := h.live.fwd g.p x ⟨g, hg, rfl, by rw [hE]; exact List.mem_cons_self⟩
        rw [e k] at hf
        cases hf
  | none =>
    refine ⟨0, by simp [Builtin.len_, run_underlying Try.underlying82, goInt, Result.andThen], ⟨fun _ k => ?_, fun _ => rfl⟩, Nat.zero_le _⟩
    cases hb : B.live o k with
    | none => rfl
    | some a =>
      obtain ⟨x, ⟨g, hg, e2, _⟩, _⟩ := h.live.bwd o k a hb
      exact absurd e2 (hin g hg)
theorem len_arm {P : Program} {w : World} {ops : Array Oper} {rest : List Oper} {a : Act} {Q : Exit → Act → World → Prop} {tt : TypeId} {ps : String} {af} {d : Nat} {t : TypeId} {x : Operand} {p v : Value}
    (hr : (Builtin.len_ #[t] tt #[p]).run P w = .ok v w) (hx : a.eval x = p) (h : wpList P ops Q rest (a.put (some d) v) w) :
    wpList P ops Q ({ dst := some d, op := .call { callee := .builtin .len, args := #[x], argTypes := #[t] }, type := tt, pos := ps, after := af, guard := none } :: rest) a w := by
  refine wpList_plain rfl fun K hK => ?_
  unfold Oper.wp
  simp [execOp, resolve, invoke, builtin, hx, hr, Result.andThen]
  exact hK _ _ h
theorem tn_inj {s t : Tn} (h : s.v = t.v) : s = t := by
  obtain ⟨a, b, c, d, e, f⟩ := s
  obtain ⟨a', b', c', d', e', f'⟩ := t
  simp only [Tn.v, Value.agg.injEq, Array.mk.injEq, List.cons.injEq, Value.int.injEq, true_and, and_true, Int.natCast_inj] at h
  obtain ⟨h1, h2, h3, h4, h5, h6⟩ := h
  subst h1 h2 h3 h4 h5 h6
  rfl
theorem AllS.found {es : Array MapEntry} {ts : List Tn} {B : Bv} {o : Int} (h : AllS es ts) (hf : Fnd B o es) : ∀ t ∈ ts, RL t.v t ∧ ∃ k, B.live o k = some t := by
  intro t ht
  obtain ⟨ts0, ⟨ps, h1, h2, h3, h4⟩, hp⟩ := h.all
  have hm : t.v ∈ ts0.map Tn.v := List.mem_map.2 ⟨t, hp.mem_iff.1 ht, rfl⟩
  rw [← h1] at hm
  obtain ⟨e, he, e2⟩ := List.mem_map.1 hm
  obtain ⟨k, t', hk, _, hl, hr⟩ := hf.val e ((h3 e).1 he)
  have : t = t' := tn_inj (e2.symm.trans hr.1)
  subst this
  exact ⟨⟨rfl, hr.2⟩, k, hl⟩
theorem rvB_take {o : Int} {B : Bv} {ts : List Tn} {k : Nat} {t : Tn} (h : ts[k]? = some t) : rvB o B (ts.take (k + 1)) = rvS o (rvB o B (ts.take k)) t := by
  unfold rvB
  rw [List.take_add_one, h, List.foldl_append]
  rfl
theorem less_refl (B : Bv) : Less B B := ⟨rfl, rfl, rfl, rfl, fun _ _ _ h => h, rfl⟩
theorem Less.trans {A B C : Bv} (h : Less A B) (k : Less B C) : Less A C := ⟨h.n.trans k.n, h.told.trans k.told, h.lists.trans k.lists, h.known.trans k.known, fun o i ls hl => k.laid o i ls (h.laid o i ls hl), h.ct.trans k.ct⟩
theorem less_dlv (o : Int) (k : Nat × Nat) (B : Bv) : Less (dlv o k B) B := ⟨rfl, rfl, rfl, rfl, fun _ _ _ h => h, rfl⟩
theorem less_rvS (o : Int) (B : Bv) (t : Tn) : Less (rvS o B t) B := by
  unfold rvS
  split
  · exact less_refl B
  · exact less_dlv _ _ _
theorem less_rvB (o : Int) : ∀ (ts : List Tn) (B : Bv), Less (rvB o B ts) B
  | [], B => less_refl B
  | t :: ts, B => (less_rvB o ts (rvS o B t)).trans (less_rvS o B t)
/-- Tokens that lie apart from a book. -/
def Tko (U : World) (m : Bm) (a : Option Addr) (ts : List Tn) : Prop := ∀ i t, ts[i]? = some t → ∃ g, a = some ⟨g, 0, none⟩ ∧ ¬ Owb m g ∧ g < U.heap.size ∧ U.rangeAt g (i * 6) t.L
theorem Tko.step {U U' : World} {m m' : Bm} {a : Option Addr} {ts : List Tn} (h : Tko U m a ts) (ht : Tr U U' m m') : Tko U' m' a ts := by
  intro i t hi
  obtain ⟨g, h1, h2, h3, h4⟩ := h i t hi
  exact ⟨g, h1, fun hj => (ht.gr g hj).elim h2 (fun h5 => by omega), Nat.lt_of_lt_of_le h3 ht.bt.size, fun j v hv => by rw [World.cell?_of_block (w := U) (ht.bt.block g h3 h2)]; exact h4 j v hv⟩
theorem Tko.later {U U' : World} {m : Bm} {a : Option Addr} {ts : List Tn} (h : Tko U m a ts) (hb : Below U.heap.size U U') : Tko U' m a ts := by
  intro i t hi
  obtain ⟨g, h1, h2, h3, h4⟩ := h i t hi
  exact ⟨g, h1, h2, Nat.lt_of_lt_of_le h3 hb.size, fun j v hv => cell_later hb (h4 j v hv)⟩
end Go.Proofs.Yticgammbjcdobaa
