import Derived.Test.YtcafmhlnfkgegaaLO
import Derived.Test.YtcafmhlnfkgegaaM3
import Derived.Maps.AppendAt
import Derived.Laws.AppendOwnNone
namespace Go.Proofs.Ytcafmhlnfkgegaa
open Go.RowKit

theorem wpList_append_known {P : Program} {w : World} {ops : Array Oper} {rest : List Oper} {o : Oper} {a : Act} {Q : Exit → Act → World → Prop} (hgd : o.guard = none) (s x : Operand) (t : TypeId)
    (ho : o.op = .call { callee := .builtin .append, args := #[s, x], argTypes := #[t, t] }) (vs vx : Value) (hs : a.eval s = vs) (hx : a.eval x = vx) (v' : Value) (w' : World)
    (hr : (Builtin.append_ #[t, t] o.type #[vs, vx]).run P w = .ok v' w') (h : wpList P ops Q rest (a.put o.dst v') w') : wpList P ops Q (o :: rest) a w := by
  refine wpList_plain hgd fun K hK => ?_
  unfold Oper.wp execOp
  simp only [ho, resolve, invoke, builtin, Sem.run_bind, Sem.run_pure, Result.andThen_ok, List.map_toArray, List.map_cons, List.map_nil, hs, hx, hr]
  exact hK _ _ h
theorem addr_add0 (g i : Nat) : (⟨g, 0, none⟩ : Addr).add i = ⟨g, i, none⟩ := by unfold Addr.add; split <;> simp_all
theorem addr_add (g o i : Nat) : (⟨g, o, none⟩ : Addr).add i = ⟨g, o + i, none⟩ := by unfold Addr.add; split <;> simp_all
theorem info5 : (Try.prog.info? 5).map (fun i => (i.zero, i.size, i.bytes)) = some (some (.int .u8 0), 1, 1) := by kernel_rfl
theorem owns_bytes {w : World} {g N : Nat} (hg : w.heap[g]? = some (.cells (u8s (bytesOf N)).toArray 5 (0, 0))) : w.ownsRow 0 5 1 (.slice (some ⟨g, 0, none⟩) 16 16) 16 (u8s (bytesOf N)) := by
  have hl : (u8s (bytesOf N)).length = 16 := by simp [u8s, bytesOf_length]
  refine ⟨by rw [hl], .inr ⟨g, 16, _, rfl, Nat.zero_le _, hg, Nat.le_refl _, by unfold maxLen; omega, by simp [hl], ?_⟩⟩
  rw [List.take_of_length_le (by simp [hl])]
theorem append_back (w1 : World) (g N : Nat) (hg : w1.heap[g]? = some (.cells (u8s (bytesOf N)).toArray 5 (0, 0))) (a : Option Addr) (len cap : Nat) (news : List Value) (ha : a = none → len = 0 ∧ cap = 0)
    (hl : news.length = len) (hn : ∀ x, a = some x → ∀ j u, news[j]? = some u → w1.cell? (x.add j) = some u) (h1c : ∀ u ∈ news, u.oneCell' = true) (hb : len ≤ 140737488351232) :
    ∃ g' cap' w2, (Builtin.append_ #[32, 32] 32 #[.slice (some ⟨g, 0, none⟩) 16 16, .slice a len cap]).run Try.prog w1 = .ok (.slice (some ⟨g', 0, none⟩) (16 + len) cap') w2 ∧ 16 + len ≤ cap' ∧
      (∀ i, i < 16 → w2.cell? ⟨g', i, none⟩ = some (.int .u8 (byteN N i : Int))) ∧ w1.grownBy w2 (some g) := by
  have ho := owns_bytes hg
  obtain ⟨i, hi, hz0, hz1, hz2⟩ := info_parts info5
  have cells : ∀ (w2 : World) (g' cap' : Nat) (xs : List Value), w2.ownsRow 0 5 1 (.slice (some ⟨g', 0, none⟩) (16 + len) cap') (16 + len) (u8s (bytesOf N) ++ xs) → 16 + len ≤ cap' ∧ ∀ i, i < 16 → w2.cell? ⟨g', i, none⟩ = some (.int .u8 (byteN N i : Int)) := by
    intro w2 g' cap' xs h
    refine ⟨?_, fun i hi => ?_⟩
    · rcases h.2 with ⟨h, _⟩ | ⟨_, _, _, h, _, _, hc, _⟩
      · cases h
      · simp only [Value.slice.injEq] at h
        omega
    · have e : (u8s (bytesOf N) ++ xs)[i]? = some (.int .u8 (byteN N i : Int)) := by
        rw [List.getElem?_append_left (by simp [u8s, bytesOf_length, hi])]
        unfold u8s
        rw [List.getElem?_map, bytesOf_get _ _ hi]; rfl
      have := h.cells (g := g') rfl i _ e
      rw [addr_add0] at this
      exact this
  cases a with
  | none =>
    obtain ⟨rfl, rfl⟩ := ha rfl
    have hr := run_append_owned_none (P := Try.prog) (w := w1) 0 32 32 5 i 1 Try.underlying32 hi _ 16 _ ho
    have := cells w1 g 16 [] (by simpa using ho)
    exact ⟨g, 16, w1, hr, this.1, this.2, ⟨rfl, rfl, rfl, Nat.le_refl _, fun _ _ _ => rfl⟩⟩
  | some x =>
    obtain ⟨v', w', hr, h2, h3, _, _⟩ := run_append_own_at (P := Try.prog) w1 0 32 32 5 i _ 1 1 Try.underlying32 hi hz0 hz1 hz2 rfl (by decide) _ 16 _ ho x len cap news (by omega) (hn x rfl) h1c (by unfold maxLen; omega) (by omega) (Nat.zero_le _)
    obtain ⟨g', cap', rfl⟩ : ∃ g' cap', v' = .slice (some ⟨g', 0, none⟩) (16 + len) cap' := by
      rcases h2.2 with ⟨_, h⟩ | ⟨g', cap', _, h, _⟩
      · omega
      · exact ⟨g', cap', h⟩
    have := cells w' g' cap' news h2
    exact ⟨g', cap', w', hr, this.1, this.2, h3⟩

/-- The bytes that came in: nothing, or cells. -/
structure RowB (w : World) (a : Option Addr) (len cap : Nat) (f : Nat → Nat) (news : List Value) : Prop where
  none_ : a = none → len = 0 ∧ cap = 0
  cap_ : len ≤ cap
  small : ∀ i, f i < 256
  len_ : news.length = len
  cells : ∀ x, a = some x → ∀ j u, news[j]? = some u → w.cell? (x.add j) = some u
  one : ∀ u ∈ news, u.oneCell' = true
  bytes : ∀ j, j < len → news[j]? = some (.int .u8 (f j : Int))
  reach : len ≤ 140737488351232
theorem RowB.later {w w' : World} {a : Option Addr} {len cap : Nat} {f : Nat → Nat} {news : List Value} (h : RowB w a len cap f news) (hb : Below w.heap.size w w') : RowB w' a len cap f news :=
  ⟨h.none_, h.cap_, h.small, h.len_, fun x hx j u hu => cell_later hb (h.cells x hx j u hu), h.one, h.bytes, h.reach⟩
/-- Where there is a byte the address is plain. -/
theorem RowB.plain {w : World} {a : Option Addr} {len cap : Nat} {f : Nat → Nat} {news : List Value} (h : RowB w a len cap f news) (hl : 0 < len) : ∃ b o, a = some ⟨b, o, none⟩ ∧ ∀ i, i < len → w.cell? ⟨b, o + i, none⟩ = some (.int .u8 (f i : Int)) := by
  cases a with
  | none => have := h.none_ rfl; omega
  | some x =>
    obtain ⟨b, o, spot⟩ := x
    have h0 := h.cells _ rfl 0 _ (h.bytes 0 hl)
    have hs : spot = none := by simpa [Addr.add] using World.cell?_spot h0
    subst hs
    refine ⟨b, o, rfl, fun i hi => ?_⟩
    have := h.cells _ rfl i _ (h.bytes i hi)
    rw [addr_add] at this
    exact this
theorem conv_bytes (w : World) (g o cap N : Nat) (h : ∀ i, i < 16 → w.cell? ⟨g, o + i, none⟩ = some (.int .u8 (byteN N i : Int))) :
    (convert 32 9 (.slice (some ⟨g, o, none⟩) 16 cap)).run Try.prog w = .ok (.string (strB (bytesOf N))) w := by
  have hl : ((bytesOf N).map UInt8.ofNat).length = 16 := by simp [bytesOf]
  have := run_convert_bytes_back (P := Try.prog) w 32 9 5 ⟨g, o, none⟩ cap ((bytesOf N).map UInt8.ofNat) Try.underlying32 Try.underlying5 Try.underlying9 (fun j hj => by
    rw [hl] at hj
    rw [addr_add, h j hj]
    have e3 := byteN_lt N j
    simp [bytesOf, Nat.mod_eq_of_lt e3])
  rw [hl] at this
  exact this
/-- The conversion's run, behind a name. -/
theorem conv_name : ∃ F : Nat → Nat → Nat → Nat → World → Result Value, ∀ g o n c W, (convert 32 9 (.slice (some ⟨g, o, none⟩) n c)).run Try.prog W = F g o n c W := ⟨fun g o n c W => (convert 32 9 (.slice (some ⟨g, o, none⟩) n c)).run Try.prog W, fun _ _ _ _ _ => rfl⟩
theorem below_grown {w w1 w2 : World} {g : Nat} (h : Below w.heap.size w w1) (hgr : w1.grownBy w2 (some g)) (hg : w.heap.size ≤ g) : Below w.heap.size w w2 :=
  h.grown hgr h.size (fun k hk => by cases hk; exact hg)
theorem Box.grown {w1 w2 : World} {k g : Nat} {a b : Int} (h : Box w1 k a b) (hgr : w1.grownBy w2 (some g)) (hk : k ≠ g) : Box w2 k a b := by
  have hlt := World.block_lt_of_cell? _ _ h.1
  have hb := hgr.block k hlt (by simpa using hk)
  exact ⟨by rw [World.cell?_of_block (w := w1) hb]; exact h.1, by rw [World.cell?_of_block (w := w1) hb]; exact h.2⟩

/-- What is asked of a text ahead of its digits. -/
def headB (s : ByteArray) : Bool := decide (1 ≤ s.size ∧ s.size ≤ 32) && (decide (¬ 1 < s.size) || !decide ((natsOf s)[0]? = some 48))
theorem parseOk_head (s : ByteArray) : parseOk (natsOf s) = (headB s && (natsOf s).all isHex) := by
  unfold parseOk headB
  rw [natsOf_length]
/-- The first k digits, and the head. -/
def rightB (s : ByteArray) (k : Nat) : Bool := headB s && ((natsOf s).take k).all isHex
theorem right_zero (s : ByteArray) : rightB s 0 = headB s := by unfold rightB; simp
theorem right_next (s : ByteArray) (k : Nat) (h : k < s.size) : rightB s (k + 1) = (rightB s k && isHex s[k].toNat) := by
  unfold rightB
  rw [natsOf_take s k h, List.all_append, ← Bool.and_assoc]
  simp
theorem right_all (s : ByteArray) (k : Nat) (h : ¬ k < s.size) : rightB s k = parseOk (natsOf s) := by
  rw [parseOk_head]
  unfold rightB
  rw [List.take_of_length_le (by rw [natsOf_length]; omega)]
theorem isHex_eq (c : Nat) : isHex c = (decide (48 ≤ c ∧ c ≤ 57) || decide (97 ≤ c ∧ c ≤ 102)) := rfl
end Go.Proofs.Ytcafmhlnfkgegaa
