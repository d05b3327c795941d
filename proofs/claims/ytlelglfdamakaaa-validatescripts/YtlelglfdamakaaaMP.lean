import Init
namespace Go.Proofs.Ytlelglfdamakaaa

/-- The nodes that are there, in the order in which they were made: number, parent. -/
abbrev Fo := List (Int × Int)
def nums (l : Fo) : List Int := l.map (·.1)
def ch (l : Fo) (p : Int) : List Int := (l.filter (fun x => decide (x.2 = p))).map (·.1)
/-- What Children answers. -/
def kids (l : Fo) (p : Int) : List Int := if 0 ≤ p then ch l p else []
/-- A forest that is made node by node: each new, each root or child of one that is there. -/
def Ok (m : Nat) (l : Fo) : Prop := ∀ P : Fo → Prop, P [] → (∀ (l : Fo) (n p : Int), P l → 0 ≤ n → n < m → n ∉ nums l → (p = -1 ∨ p ∈ nums l) → P (l ++ [(n, p)])) → P l
theorem Ok.nil {m : Nat} : Ok m [] := fun _ h0 _ => h0
theorem Ok.add {m : Nat} {l : Fo} {n p : Int} (h : Ok m l) (h0 : 0 ≤ n) (h1 : n < m) (h2 : n ∉ nums l) (h3 : p = -1 ∨ p ∈ nums l) : Ok m (l ++ [(n, p)]) := fun P hn ha => ha l n p (h P hn ha) h0 h1 h2 h3
theorem Ok.ind {m : Nat} {P : Fo → Prop} {l : Fo} (h : Ok m l) (hn : P []) (ha : ∀ (l : Fo) (n p : Int), Ok m l → P l → 0 ≤ n → n < m → n ∉ nums l → (p = -1 ∨ p ∈ nums l) → P (l ++ [(n, p)])) : P l :=
  (h (fun l => Ok m l ∧ P l) ⟨Ok.nil, hn⟩ (fun l n p ih h0 h1 h2 h3 => ⟨ih.1.add h0 h1 h2 h3, ha l n p ih.1 ih.2 h0 h1 h2 h3⟩)).2
theorem nums_app (l : Fo) (n p : Int) : nums (l ++ [(n, p)]) = nums l ++ [n] := by simp [nums]
theorem ch_app (l : Fo) (n p q : Int) : ch (l ++ [(n, p)]) q = ch l q ++ (if p = q then [n] else []) := by
  unfold ch
  rw [List.filter_append, List.map_append]
  congr 1
  by_cases h : p = q <;> simp [h]
theorem mem_ch {l : Fo} {p k : Int} : k ∈ ch l p ↔ (k, p) ∈ l := by
  unfold ch
  simp only [List.mem_map, List.mem_filter, decide_eq_true_eq]
  constructor
  · rintro ⟨⟨a, b⟩, ⟨h1, h2⟩, h3⟩
    simp only at h2 h3
    subst h2 h3
    exact h1
  · intro h
    exact ⟨(k, p), ⟨h, rfl⟩, rfl⟩
theorem mem_nums {l : Fo} {k : Int} : k ∈ nums l ↔ ∃ p, (k, p) ∈ l := by
  unfold nums
  simp only [List.mem_map]
  constructor
  · rintro ⟨⟨a, b⟩, h1, h2⟩
    simp only at h2
    subst h2
    exact ⟨b, h1⟩
  · rintro ⟨p, h⟩
    exact ⟨_, h, rfl⟩
theorem Ok.range {m : Nat} {l : Fo} (h : Ok m l) : ∀ k ∈ nums l, 0 ≤ k ∧ k < m := by
  refine Ok.ind (P := fun l => ∀ k ∈ nums l, 0 ≤ k ∧ k < m) h ?_ ?_
  · intro k hk; cases hk
  · intro l n p h ih h0 h1 h2 h3
    intro k hk
    rw [nums_app, List.mem_append, List.mem_singleton] at hk
    rcases hk with hk | rfl
    · exact ih k hk
    · exact ⟨h0, h1⟩
theorem Ok.nodup {m : Nat} {l : Fo} (h : Ok m l) : (nums l).Nodup := by
  refine Ok.ind (P := fun l => (nums l).Nodup) h ?_ ?_
  · exact List.nodup_nil
  · intro l n p h ih h0 h1 h2 h3
    rw [nums_app, List.nodup_append]
    refine ⟨ih, by simp, fun a ha b hb => ?_⟩
    rw [List.mem_singleton] at hb
    subst hb
    intro e
    subst e
    exact h2 ha
/-- Parents stand ahead. -/
theorem Ok.par {m : Nat} {l : Fo} (h : Ok m l) : ∀ (j : Nat) (k p : Int), l[j]? = some (k, p) → p = -1 ∨ ∃ (i : Nat) (q : Int), i < j ∧ l[i]? = some (p, q) := by
  refine Ok.ind (P := fun l => ∀ (j : Nat) (k p : Int), l[j]? = some (k, p) → p = -1 ∨ ∃ (i : Nat) (q : Int), i < j ∧ l[i]? = some (p, q)) h ?_ ?_
  · intro j k p hj; simp at hj
  · intro l n p h ih h0 h1 h2 h3
    intro j k q hj
    by_cases hlt : j < l.length
    · rw [List.getElem?_append_left hlt] at hj
      rcases ih j k q hj with h | ⟨i, r, hi, hr⟩
      · exact .inl h
      · exact .inr ⟨i, r, hi, by rw [List.getElem?_append_left (by omega)]; exact hr⟩
    · rw [List.getElem?_append_right (by omega)] at hj
      have hj0 : j - l.length = 0 := by
        rcases Nat.eq_zero_or_pos (j - l.length) with h | h
        · exact h
        · rw [List.getElem?_eq_none (by simp; omega)] at hj; cases hj
      rw [hj0] at hj
      simp only [List.getElem?_cons_zero, Option.some.injEq, Prod.mk.injEq] at hj
      obtain ⟨rfl, rfl⟩ := hj
      rcases h3 with h3 | h3
      · exact .inl h3
      · obtain ⟨r, hr⟩ := mem_nums.1 h3
        obtain ⟨i, hi⟩ := List.getElem?_of_mem hr
        have : i < l.length := (List.getElem?_eq_some_iff.1 hi).1
        exact .inr ⟨i, r, by omega, by rw [List.getElem?_append_left this]; exact hi⟩
theorem Ok.up {m : Nat} {l : Fo} (h : Ok m l) {k p : Int} (hk : (k, p) ∈ l) : p = -1 ∨ p ∈ nums l := by
  obtain ⟨j, hj⟩ := List.getElem?_of_mem hk
  rcases h.par j k p hj with h | ⟨i, q, _, hi⟩
  · exact .inl h
  · exact .inr (mem_nums.2 ⟨q, List.mem_of_getElem? hi⟩)
theorem Ok.uniq {m : Nat} {l : Fo} (h : Ok m l) : ∀ {k p q : Int}, (k, p) ∈ l → (k, q) ∈ l → p = q := by
  refine Ok.ind (P := fun l => ∀ {k p q : Int}, (k, p) ∈ l → (k, q) ∈ l → p = q) h ?_ ?_
  · intro k p q hk; cases hk
  · intro l n p h ih h0 h1 h2 h3
    intro k p q h4 h5
    rw [List.mem_append, List.mem_singleton, Prod.mk.injEq] at h4 h5
    rcases h4 with h4 | ⟨rfl, rfl⟩ <;> rcases h5 with h5 | ⟨h5, rfl⟩
    · exact ih h4 h5
    · subst h5; exact absurd (mem_nums.2 ⟨_, h4⟩) h2
    · exact absurd (mem_nums.2 ⟨_, h5⟩) h2
    · rfl
theorem ch_sub (l : Fo) (p : Int) : (ch l p).Sublist (nums l) := (List.filter_sublist).map _
theorem Ok.chNodup {m : Nat} {l : Fo} (h : Ok m l) (p : Int) : (ch l p).Nodup := List.Nodup.sublist (ch_sub l p) h.nodup
theorem ch_mem {l : Fo} {p k : Int} (h : k ∈ ch l p) : k ∈ nums l := (ch_sub l p).subset h
/-- Who is not there has no children. -/
theorem Ok.none {m : Nat} {l : Fo} (h : Ok m l) {p : Int} (h0 : 0 ≤ p) (hp : p ∉ nums l) : ch l p = [] := by
  apply List.eq_nil_iff_forall_not_mem.2
  intro k hk
  rcases h.up (mem_ch.1 hk) with h1 | h1
  · omega
  · exact hp h1
theorem pigeon : ∀ (m : Nat) (L : List Int), L.Nodup → (∀ x ∈ L, 0 ≤ x ∧ x < m) → L.length ≤ m
  | 0, L, _, h => by
    cases L with
    | nil => simp
    | cons a t => have := h a (by simp); omega
  | m + 1, L, hn, h => by
    have h1 := pigeon m (L.erase (m : Int)) (hn.erase _) (fun x hx => by
      have h2 := (hn.mem_erase_iff).1 hx
      have h3 := h x h2.2
      have h4 := h2.1
      exact ⟨h3.1, by omega⟩)
    by_cases hm : (m : Int) ∈ L
    · rw [List.length_erase_of_mem hm] at h1
      omega
    · rw [List.erase_of_not_mem hm] at h1
      omega
theorem Ok.len {m : Nat} {l : Fo} (h : Ok m l) : l.length ≤ m := by
  have := pigeon m (nums l) h.nodup h.range
  simpa [nums] using this
/-- A node is cut. -/
def cut (l : Fo) (n : Int) : Fo := l.filter (fun x => decide (x.1 ≠ n))
theorem cut_app (l : Fo) (n a p : Int) : cut (l ++ [(a, p)]) n = cut l n ++ (if a = n then [] else [(a, p)]) := by
  unfold cut
  rw [List.filter_append]
  congr 1
  by_cases h : a = n <;> simp [h]
theorem mem_cut {l : Fo} {n : Int} {x : Int × Int} : x ∈ cut l n ↔ x ∈ l ∧ x.1 ≠ n := by simp [cut]
theorem nums_cut {l : Fo} {n k : Int} : k ∈ nums (cut l n) ↔ k ∈ nums l ∧ k ≠ n := by
  rw [mem_nums, mem_nums]
  constructor
  · rintro ⟨p, hp⟩
    have := mem_cut.1 hp
    exact ⟨⟨p, this.1⟩, this.2⟩
  · rintro ⟨⟨p, hp⟩, hn⟩
    exact ⟨p, mem_cut.2 ⟨hp, hn⟩⟩
theorem Ok.cut {m : Nat} {l : Fo} (h : Ok m l) (n : Int) (hc : ch l n = []) : Ok m (cut l n) := by
  refine Ok.ind (P := fun l => ch l n = [] → Ok m (Go.Proofs.Ytlelglfdamakaaa.cut l n)) h ?_ ?_ hc
  · exact fun _ => Ok.nil
  · intro l a p h ih h0 h1 h2 h3 hc
    rw [ch_app] at hc
    obtain ⟨hc1, hc2⟩ := List.append_eq_nil_iff.1 hc
    have hpn : p ≠ n := by
      intro e
      rw [if_pos e] at hc2
      cases hc2
    rw [cut_app]
    split
    · rw [List.append_nil]; exact ih hc1
    · refine .add (ih hc1) h0 h1 (fun hk => h2 (nums_cut.1 hk).1) ?_
      rcases h3 with h3 | h3
      · exact .inl h3
      · exact .inr (nums_cut.2 ⟨h3, hpn⟩)
theorem ch_cut (l : Fo) (n q : Int) : ch (cut l n) q = (ch l q).filter (fun x => decide (x ≠ n)) := by
  unfold ch cut
  rw [List.filter_filter, List.filter_map, List.filter_filter]
  congr 1
  apply List.filter_congr
  intro x _
  simp only [Function.comp]
  rw [Bool.and_comm]
theorem filter_out {c : List Int} {n : Int} (h : n ∉ c) : c.filter (fun x => decide (x ≠ n)) = c := by
  rw [List.filter_eq_self]
  intro a ha
  exact decide_eq_true (fun e => h (e ▸ ha))
theorem filter_in {c1 c2 : List Int} {n : Int} (h : (c1 ++ n :: c2).Nodup) : (c1 ++ n :: c2).filter (fun x => decide (x ≠ n)) = c1 ++ c2 := by
  rw [List.nodup_append] at h
  obtain ⟨_, h2, h3⟩ := h
  rw [List.nodup_cons] at h2
  rw [List.filter_append, filter_out (fun hk => h3 n hk n (by simp) rfl)]
  congr 1
  rw [List.filter_cons_of_neg (by simp)]
  exact filter_out h2.1
end Go.Proofs.Ytlelglfdamakaaa
namespace Go.Proofs.Ytlelglfdamakaaa
set_option linter.unusedVariables false

/-- A node in memory. -/
structure Nd where
  th : Bool
  pa : Int
  fi : Int
  be : Int
/-- The node that isn't there. -/
def nd0 : Nd := ⟨false, 0, 0, 0⟩
def nx (c : List Int) (i : Nat) : Int := (c[i]?).getD (-1)
/-- The nodes in memory stand for the forest l. -/
structure Rep (m : Nat) (l : Fo) (N : List Nd) : Prop where
  len : N.length = m
  ok : Ok m l
  out : ∀ (k : Nat) (x : Nd), N[k]? = some x → (k : Int) ∉ nums l → x = nd0
  inn : ∀ (k : Nat) (x : Nd) (p : Int), N[k]? = some x → ((k : Int), p) ∈ l → x.th = true ∧ x.pa = p
  fi : ∀ (k : Nat) (x : Nd), N[k]? = some x → (k : Int) ∈ nums l → x.fi = nx (ch l k) 0
  be : ∀ (p : Int), 0 ≤ p → ∀ (i k : Nat) (x : Nd), (ch l p)[i]? = some (k : Int) → N[k]? = some x → x.be = nx (ch l p) (i + 1)
theorem get_some {α : Type} {L : List α} {i : Nat} (h : i < L.length) : ∃ p, L[i]? = some p := ⟨L[i], List.getElem?_eq_getElem h⟩
theorem get_set {α : Type} {L : List α} {i j : Nat} {x p : α} (h : (L.set i x)[j]? = some p) : (i = j ∧ p = x) ∨ (i ≠ j ∧ L[j]? = some p) := by
  rw [List.getElem?_set] at h
  split at h
  · next he =>
    split at h
    · exact .inl ⟨he, (Option.some.inj h).symm⟩
    · cases h
  · next he => exact .inr ⟨he, h⟩
theorem Rep.get {m : Nat} {l : Fo} {N : List Nd} (h : Rep m l N) {n : Int} (hn : n ∈ nums l) : ∃ (k : Nat) (x : Nd), n = (k : Int) ∧ k < m ∧ N[k]? = some x := by
  have hr := h.ok.range n hn
  obtain ⟨x, hx⟩ := get_some (L := N) (i := n.toNat) (by rw [h.len]; omega)
  exact ⟨n.toNat, x, by omega, by omega, hx⟩
theorem Rep.there {m : Nat} {l : Fo} {N : List Nd} (h : Rep m l N) {k : Nat} {x : Nd} (hx : N[k]? = some x) : x.th = decide ((k : Int) ∈ nums l) := by
  by_cases hk : (k : Int) ∈ nums l
  · obtain ⟨p, hp⟩ := mem_nums.1 hk
    rw [(h.inn k x p hx hp).1, decide_eq_true hk]
  · rw [h.out k x hx hk, decide_eq_false hk]; rfl
/-- A row of siblings in memory. -/
structure Chain (N : List Nd) (p : Nat) (c : List Int) : Prop where
  top : ∃ x, N[p]? = some x ∧ x.fi = nx c 0
  nxt : ∀ (i : Nat) (a : Int), c[i]? = some a → ∃ (k : Nat) (x : Nd), a = (k : Int) ∧ N[k]? = some x ∧ x.be = nx c (i + 1)
theorem Rep.chain {m : Nat} {l : Fo} {N : List Nd} (h : Rep m l N) {p : Nat} (hp : (p : Int) ∈ nums l) : Chain N p (ch l p) := by
  refine ⟨?_, fun i a ha => ?_⟩
  · obtain ⟨k, x, hk, _, hx⟩ := h.get hp
    have : k = p := by omega
    subst this
    exact ⟨x, hx, h.fi _ _ hx hp⟩
  · obtain ⟨k, x, rfl, _, hx⟩ := h.get (ch_mem (List.mem_of_getElem? ha))
    exact ⟨k, x, rfl, hx, h.be p (by omega) i k x ha hx⟩
/-- The link by which the i-th child is reached: whose, and which. -/
def lkN (p : Nat) (c : List Int) : Nat → Nat
  | 0 => p
  | i + 1 => (nx c i).toNat
def lkF : Nat → Nat
  | 0 => 2
  | _ + 1 => 3
/-- The link is written. -/
def Nd.put (x : Nd) (f : Nat) (v : Int) : Nd := if f = 2 then { x with fi := v } else { x with be := v }
def putL (N : List Nd) (p : Nat) (c : List Int) (i : Nat) (v : Int) : List Nd :=
  match N[lkN p c i]? with
  | some x => N.set (lkN p c i) (x.put (lkF i) v)
  | none => N
theorem putL_len (N : List Nd) (p : Nat) (c : List Int) (i : Nat) (v : Int) : (putL N p c i v).length = N.length := by
  unfold putL; split <;> simp
theorem put_get {N : List Nd} {p : Nat} {c : List Int} {i : Nat} {v : Int} {k : Nat} {x : Nd} (h : (putL N p c i v)[k]? = some x) :
    ∃ y, N[k]? = some y ∧ x.th = y.th ∧ x.pa = y.pa ∧ x.fi = (if i = 0 ∧ k = p then v else y.fi) ∧ x.be = (if 0 < i ∧ k = lkN p c i then v else y.be) := by
  unfold putL at h
  split at h
  · next y hy =>
    rcases get_set h with ⟨hk, rfl⟩ | ⟨hk, h⟩
    · subst hk
      refine ⟨y, hy, ?_⟩
      cases i with
      | zero => simp [Nd.put, lkF, lkN]
      | succ i => simp [Nd.put, lkF]
    · refine ⟨x, h, rfl, rfl, ?_, ?_⟩
      · rw [if_neg]; rintro ⟨rfl, rfl⟩; exact hk rfl
      · rw [if_neg]; rintro ⟨_, rfl⟩; exact hk rfl
  · next hy =>
    refine ⟨x, h, rfl, rfl, ?_, ?_⟩
    · rw [if_neg]; rintro ⟨rfl, rfl⟩; unfold lkN at hy; rw [hy] at h; cases h
    · rw [if_neg]; rintro ⟨_, rfl⟩; rw [hy] at h; cases h
theorem nx_lt {c : List Int} {i : Nat} (h : i < c.length) : nx c i = c[i] := by simp [nx, h]
theorem nx_ge {c : List Int} {i : Nat} (h : c.length ≤ i) : nx c i = -1 := by simp [nx, h]
theorem Rep.init (m : Nat) : Rep m [] (List.replicate m nd0) := by
  refine ⟨by simp, .nil, fun k x hx _ => ?_, fun k x p _ h => (by cases h), fun k x _ h => (by cases h), fun p _ i k x h => ?_⟩
  · rw [List.getElem?_replicate] at hx
    split at hx
    · exact (Option.some.inj hx).symm
    · cases hx
  · simp [ch] at h
/-- A node without a parent. -/
theorem Rep.root {m : Nat} {l : Fo} {N : List Nd} (h : Rep m l N) {n : Nat} (hn : n < m) (hl : (n : Int) ∉ nums l) : Rep m (l ++ [((n : Int), -1)]) (N.set n ⟨true, -1, -1, -1⟩) := by
  have hch : ∀ q : Int, 0 ≤ q → ch (l ++ [((n : Int), -1)]) q = ch l q := fun q hq => by
    rw [ch_app, if_neg (by omega), List.append_nil]
  refine ⟨by rw [List.length_set]; exact h.len, .add h.ok (by omega) (by omega) hl (.inl rfl), fun k x hx hk => ?_, fun k x p hx hp => ?_, fun k x hx hk => ?_, fun p hp i k x hi hx => ?_⟩
  · rw [nums_app, List.mem_append, List.mem_singleton, not_or] at hk
    rcases get_set hx with ⟨rfl, _⟩ | ⟨_, hx⟩
    · exact absurd rfl hk.2
    · exact h.out k x hx hk.1
  · rw [List.mem_append, List.mem_singleton, Prod.mk.injEq] at hp
    rcases get_set hx with ⟨rfl, rfl⟩ | ⟨hne, hx⟩
    · rcases hp with hp | ⟨_, rfl⟩
      · exact absurd (mem_nums.2 ⟨_, hp⟩) hl
      · exact ⟨rfl, rfl⟩
    · rcases hp with hp | ⟨hp, _⟩
      · exact h.inn k x p hx hp
      · omega
  · rw [hch _ (by omega)]
    rw [nums_app, List.mem_append, List.mem_singleton] at hk
    rcases get_set hx with ⟨rfl, rfl⟩ | ⟨hne, hx⟩
    · rw [h.ok.none (by omega) hl]; rfl
    · rcases hk with hk | hk
      · exact h.fi k x hx hk
      · omega
  · rw [hch p hp] at hi ⊢
    have hk := ch_mem (List.mem_of_getElem? hi)
    rcases get_set hx with ⟨rfl, rfl⟩ | ⟨hne, hx⟩
    · exact absurd hk hl
    · exact h.be p hp i k x hi hx
theorem nd_idx {c : List Int} (hc : c.Nodup) {i j : Nat} {a : Int} (h1 : c[i]? = some a) (h2 : c[j]? = some a) : i = j := by
  have hi := (List.getElem?_eq_some_iff.1 h1).1
  exact (List.getElem?_inj hi hc).1 (h1.trans h2.symm)
/-- The new node, named by nobody yet. -/
theorem Rep.chainNew {m : Nat} {l : Fo} {N : List Nd} (h : Rep m l N) {p n : Nat} (hp : (p : Int) ∈ nums l) (hl : (n : Int) ∉ nums l) (y : Nd) : Chain (N.set n y) p (ch l p) := by
  obtain ⟨⟨x, hx, hx2⟩, h2⟩ := h.chain hp
  have hpn : n ≠ p := fun e => hl (by rw [e]; exact hp)
  refine ⟨⟨x, by rw [List.getElem?_set_ne hpn]; exact hx, hx2⟩, fun i a ha => ?_⟩
  obtain ⟨k, z, rfl, hz, hz2⟩ := h2 i a ha
  have hkn : n ≠ k := fun e => hl (by rw [e]; exact ch_mem (List.mem_of_getElem? ha))
  exact ⟨k, z, rfl, by rw [List.getElem?_set_ne hkn]; exact hz, hz2⟩
theorem Rep.child {m : Nat} {l : Fo} {N : List Nd} (h : Rep m l N) {n p : Nat} (hn : n < m) (hp : (p : Int) ∈ nums l) (hl : (n : Int) ∉ nums l) :
    Rep m (l ++ [((n : Int), (p : Int))]) (putL (N.set n ⟨true, p, -1, -1⟩) p (ch l p) (ch l p).length n) := by
  obtain ⟨c, hc⟩ : ∃ c, c = ch l p := ⟨_, rfl⟩
  rw [← hc]
  have hcn : c.Nodup := hc ▸ h.ok.chNodup p
  have hcm : ∀ a ∈ c, a ∈ nums l := fun a ha => ch_mem (hc ▸ ha)
  have hpn : n ≠ p := fun e => hl (by rw [e]; exact hp)
  -- whose link it is
  have hlk : lkN p c c.length ≠ n ∧ ((lkN p c c.length : Nat) : Int) ∈ nums l ∧ (0 < c.length → c[c.length - 1]? = some ((lkN p c c.length : Nat) : Int)) := by
    cases hcl : c.length with
    | zero => exact ⟨fun e => hpn e.symm, hp, fun h => absurd h (Nat.lt_irrefl _)⟩
    | succ j =>
      have hj : j < c.length := by omega
      have hm := hcm _ (List.getElem_mem hj)
      have hr := h.ok.range _ hm
      have e : ((lkN p c (j + 1) : Nat) : Int) = c[j] := by show (((nx c j).toNat : Nat) : Int) = _; rw [nx_lt hj]; omega
      refine ⟨fun e2 => hl ?_, by rw [e]; exact hm, fun _ => by rw [e]; simp⟩
      rw [← e2, e]; exact hm
  have hch : ∀ q : Int, q ≠ p → ch (l ++ [((n : Int), (p : Int))]) q = ch l q := fun q hq => by
    rw [ch_app, if_neg (fun e => hq e.symm), List.append_nil]
  have hchp : ch (l ++ [((n : Int), (p : Int))]) p = c ++ [(n : Int)] := by rw [ch_app, if_pos rfl, hc]
  refine ⟨by rw [putL_len, List.length_set]; exact h.len, .add h.ok (by omega) (by omega) hl (.inr hp), fun k x hx hk => ?_, fun k x q hx hq => ?_, fun k x hx hk => ?_, fun q hq i k x hi hx => ?_⟩
  · rw [nums_app, List.mem_append, List.mem_singleton, not_or] at hk
    obtain ⟨y, hy, h1, h2, h3, h4⟩ := put_get hx
    rw [if_neg (fun e => hk.1 (by rw [e.2]; exact hp))] at h3
    rw [if_neg (fun e => hk.1 (by rw [e.2]; exact hlk.2.1))] at h4
    rcases get_set hy with ⟨rfl, _⟩ | ⟨_, hy⟩
    · exact absurd rfl hk.2
    · have := h.out k y hy hk.1
      subst this
      obtain ⟨a, b, c, d⟩ := x
      simp only at h1 h2 h3 h4
      subst h1 h2 h3 h4
      rfl
  · obtain ⟨y, hy, h1, h2, _, _⟩ := put_get hx
    rw [h1, h2]
    rw [List.mem_append, List.mem_singleton, Prod.mk.injEq] at hq
    rcases get_set hy with ⟨rfl, rfl⟩ | ⟨hne, hy⟩
    · rcases hq with hq | ⟨_, rfl⟩
      · exact absurd (mem_nums.2 ⟨_, hq⟩) hl
      · exact ⟨rfl, rfl⟩
    · rcases hq with hq | ⟨hq, _⟩
      · exact h.inn k y q hy hq
      · omega
  · obtain ⟨y, hy, _, _, h3, _⟩ := put_get hx
    rw [h3]
    rw [nums_app, List.mem_append, List.mem_singleton] at hk
    by_cases hkp : k = p
    · subst hkp
      rw [hchp]
      rcases get_set hy with ⟨rfl, rfl⟩ | ⟨hne, hy⟩
      · exact absurd rfl hpn
      · by_cases hc0 : c.length = 0
        · rw [if_pos ⟨hc0, rfl⟩, List.eq_nil_of_length_eq_zero hc0]; rfl
        · rw [if_neg (fun e => hc0 e.1), h.fi k y hy hp, ← hc, nx_lt (by omega), nx_lt (by simp), List.getElem_append_left (by omega)]
    · rw [if_neg (fun e => hkp e.2), hch _ (by omega)]
      rcases get_set hy with ⟨rfl, rfl⟩ | ⟨hne, hy⟩
      · rw [h.ok.none (by omega) hl]; rfl
      · rcases hk with hk | hk
        · exact h.fi k y hy hk
        · omega
  · obtain ⟨y, hy, _, _, _, h4⟩ := put_get hx
    rw [h4]
    by_cases hqp : q = p
    · subst hqp
      rw [hchp] at hi ⊢
      by_cases hil : i < c.length
      · rw [List.getElem?_append_left hil] at hi
        have hkl := hcm _ (List.mem_of_getElem? hi)
        rcases get_set hy with ⟨rfl, rfl⟩ | ⟨hne, hy⟩
        · exact absurd hkl hl
        · by_cases hi1 : i + 1 = c.length
          · have : (k : Int) = (lkN p c c.length : Nat) := by
              have := hlk.2.2 (by omega)
              rw [show c.length - 1 = i by omega, hi] at this
              exact Option.some.inj this
            rw [if_pos ⟨by omega, by omega⟩, nx_lt (by simp; omega)]
            simp [hi1]
          · rw [if_neg]
            · rw [h.be p (by omega) i k y (hc ▸ hi) hy, ← hc, nx_lt (by omega), nx_lt (by simp; omega), List.getElem_append_left (by omega)]
            · rintro ⟨h5, h6⟩
              have := hlk.2.2 h5
              rw [← h6] at this
              have := nd_idx hcn hi this
              omega
      · rw [List.getElem?_append_right (by omega)] at hi
        have hi0 : i - c.length = 0 := by
          rcases Nat.eq_zero_or_pos (i - c.length) with h | h
          · exact h
          · rw [List.getElem?_eq_none (by simp; omega)] at hi; cases hi
        rw [hi0] at hi
        simp only [List.getElem?_cons_zero, Option.some.injEq] at hi
        have hkn : n = k := by omega
        subst hkn
        rw [if_neg (fun e => hlk.1 e.2.symm), nx_ge (by simp; omega)]
        rcases get_set hy with ⟨_, rfl⟩ | ⟨hne, hy⟩
        · rfl
        · exact absurd rfl hne
    · rw [hch q hqp] at hi ⊢
      have hkl := List.mem_of_getElem? hi
      rcases get_set hy with ⟨rfl, rfl⟩ | ⟨hne, hy⟩
      · exact absurd (ch_mem hkl) hl
      · rw [if_neg]
        · exact h.be q hq i k y hi hy
        · rintro ⟨h5, h6⟩
          have := List.mem_of_getElem? (hlk.2.2 h5)
          rw [← h6, hc] at this
          exact hqp (h.ok.uniq (mem_ch.1 hkl) (mem_ch.1 this))
end Go.Proofs.Ytlelglfdamakaaa
namespace Go.Proofs.Ytlelglfdamakaaa
set_option linter.unusedVariables false

theorem Ok.ahead {m : Nat} {l : Fo} (h : Ok m l) {j i : Nat} {k p c : Int} (hj : l[j]? = some (k, p)) (hi : l[i]? = some (c, k)) : j < i := by
  rcases h.par i c k hi with e | ⟨i', q, hlt, hq⟩
  · have := h.range k (mem_nums.2 ⟨p, List.mem_of_getElem? hj⟩)
    omega
  · have h1 : (nums l)[i']? = some k := by simp [nums, hq]
    have h2 : (nums l)[j]? = some k := by simp [nums, hj]
    have := nd_idx h.nodup h1 h2
    omega
/-- From the children to the parent. -/
theorem tree_ind {m : Nat} {l : Fo} (h : Ok m l) {P : Int → Prop} (hs : ∀ n ∈ nums l, (∀ c ∈ ch l n, P c) → P n) : ∀ n ∈ nums l, P n := by
  have key : ∀ (d j : Nat) (k p : Int), l[j]? = some (k, p) → l.length ≤ d + j → P k := by
    intro d
    induction d with
    | zero =>
      intro j k p hj hd
      have := (List.getElem?_eq_some_iff.1 hj).1
      omega
    | succ d ih =>
      intro j k p hj hd
      refine hs k (mem_nums.2 ⟨p, List.mem_of_getElem? hj⟩) (fun c hc => ?_)
      obtain ⟨i, hi⟩ := List.getElem?_of_mem (mem_ch.1 hc)
      have := h.ahead hj hi
      exact ih i c k hi (by omega)
  intro n hn
  obtain ⟨p, hp⟩ := mem_nums.1 hn
  obtain ⟨j, hj⟩ := List.getElem?_of_mem hp
  exact key l.length j n p hj (by omega)
/-- From the parent to the children. -/
theorem up_ind {m : Nat} {l : Fo} (h : Ok m l) {P : Int → Prop} (hs : ∀ n p, (n, p) ∈ l → (p ∈ nums l → P p) → P n) : ∀ n ∈ nums l, P n := by
  have key : ∀ (d j : Nat) (k p : Int), l[j]? = some (k, p) → j < d → P k := by
    intro d
    induction d with
    | zero => intro j k p hj hd; omega
    | succ d ih =>
      intro j k p hj hd
      refine hs k p (List.mem_of_getElem? hj) (fun hp => ?_)
      obtain ⟨q, hq⟩ := mem_nums.1 hp
      obtain ⟨i, hi⟩ := List.getElem?_of_mem hq
      have := h.ahead hi hj
      exact ih i p q hi (by omega)
  intro n hn
  obtain ⟨p, hp⟩ := mem_nums.1 hn
  obtain ⟨j, hj⟩ := List.getElem?_of_mem hp
  exact key (j + 1) j n p hj (by omega)

theorem fm_congr {f g : Int → List Int} : ∀ {L : List Int}, (∀ c ∈ L, f c = g c) → L.flatMap f = L.flatMap g
  | [], _ => rfl
  | c :: L, h => by
    rw [List.flatMap_cons, List.flatMap_cons, h c (by simp), fm_congr (fun x hx => h x (by simp [hx]))]
/-- In which order children are gone through. -/
def ord (e : Bool) (c : List Int) : List Int := if e then c else c.reverse
theorem mem_ord {e : Bool} {c : List Int} {x : Int} : x ∈ ord e c ↔ x ∈ c := by unfold ord; split <;> simp
def gn (e : Bool) (l : Fo) : Nat → Int → List Int
  | 0, _ => []
  | d + 1, n => n :: (ord e (ch l n)).flatMap (gn e l d)
theorem gn_stable {m : Nat} {l : Fo} (h : Ok m l) (e : Bool) : ∀ (d j : Nat) (k p : Int), l[j]? = some (k, p) → l.length ≤ d + j → gn e l (d + 1) k = gn e l d k := by
  intro d
  induction d with
  | zero =>
    intro j k p hj hd
    have := (List.getElem?_eq_some_iff.1 hj).1
    omega
  | succ d ih =>
    intro j k p hj hd
    show k :: (ord e (ch l k)).flatMap (gn e l (d + 1)) = k :: (ord e (ch l k)).flatMap (gn e l d)
    rw [fm_congr (fun c hc => ?_)]
    obtain ⟨i, hi⟩ := List.getElem?_of_mem (mem_ch.1 (mem_ord.1 hc))
    have := h.ahead hj hi
    exact ih i c k hi (by omega)
/-- A node and all below it, each ahead of its children. -/
def G (e : Bool) (l : Fo) (n : Int) : List Int := if n ∈ nums l then gn e l l.length n else []
theorem G_out {e : Bool} {l : Fo} {n : Int} (hn : n ∉ nums l) : G e l n = [] := by unfold G; rw [if_neg hn]
theorem G_eq {m : Nat} {l : Fo} (h : Ok m l) {e : Bool} {n : Int} (hn : n ∈ nums l) : G e l n = n :: (ord e (ch l n)).flatMap (G e l) := by
  obtain ⟨p, hp⟩ := mem_nums.1 hn
  obtain ⟨j, hj⟩ := List.getElem?_of_mem hp
  have h1 := gn_stable h e l.length j n p hj (by omega)
  have h2 : G e l n = gn e l l.length n := by unfold G; rw [if_pos hn]
  rw [h2, ← h1]
  show n :: (ord e (ch l n)).flatMap (gn e l l.length) = _
  rw [fm_congr (fun c hc => ?_)]
  unfold G
  rw [if_pos (ch_mem (mem_ord.1 hc))]
theorem G_self {m : Nat} {l : Fo} (h : Ok m l) {e : Bool} {n : Int} (hn : n ∈ nums l) : n ∈ G e l n := by rw [G_eq h hn]; simp

def par (l : Fo) (k : Int) : Int := ((l.find? (fun x => decide (x.1 = k))).map (·.2)).getD (-1)
theorem par_eq {m : Nat} {l : Fo} (h : Ok m l) {n p : Int} (hn : (n, p) ∈ l) : par l n = p := by
  unfold par
  cases hf : l.find? (fun x => decide (x.1 = n)) with
  | none => exact absurd (List.find?_eq_none.1 hf _ hn) (by simp)
  | some x =>
    have h1 := List.mem_of_find?_eq_some hf
    have h2 := List.find?_some hf
    simp only [decide_eq_true_eq] at h2
    obtain ⟨a, b⟩ := x
    simp only at h2
    subst h2
    exact h.uniq h1 hn
def un (l : Fo) : Nat → Int → List Int
  | 0, _ => []
  | d + 1, n => n :: (if par l n ∈ nums l then un l d (par l n) else [])
theorem un_stable {m : Nat} {l : Fo} (h : Ok m l) : ∀ (d j : Nat) (k p : Int), l[j]? = some (k, p) → j < d → un l (d + 1) k = un l d k := by
  intro d
  induction d with
  | zero => intro j k p hj hd; omega
  | succ d ih =>
    intro j k p hj hd
    show k :: (if par l k ∈ nums l then un l (d + 1) (par l k) else []) = k :: (if par l k ∈ nums l then un l d (par l k) else [])
    rw [par_eq h (List.mem_of_getElem? hj)]
    split
    · next hp =>
      obtain ⟨q, hq⟩ := mem_nums.1 hp
      obtain ⟨i, hi⟩ := List.getElem?_of_mem hq
      have := h.ahead hi hj
      rw [ih i p q hi (by omega)]
    · rfl
/-- A node, its parent, .. up to the root. -/
def U (l : Fo) (n : Int) : List Int := if n ∈ nums l then un l l.length n else []
theorem U_out {l : Fo} {n : Int} (hn : n ∉ nums l) : U l n = [] := by unfold U; rw [if_neg hn]
theorem U_eq {m : Nat} {l : Fo} (h : Ok m l) {n p : Int} (hn : (n, p) ∈ l) : U l n = n :: U l p := by
  obtain ⟨j, hj⟩ := List.getElem?_of_mem hn
  have hlt := (List.getElem?_eq_some_iff.1 hj).1
  have h1 := un_stable h l.length j n p hj hlt
  have h2 : U l n = un l l.length n := by unfold U; rw [if_pos (mem_nums.2 ⟨p, hn⟩)]
  rw [h2, ← h1]
  show n :: (if par l n ∈ nums l then un l l.length (par l n) else []) = _
  rw [par_eq h hn]
  rfl
theorem U_mem {l : Fo} {a x : Int} (h : a ∈ U l x) : x ∈ nums l := Classical.byContradiction fun hx => by rw [U_out hx] at h; cases h
theorem U_self {m : Nat} {l : Fo} (h : Ok m l) {n : Int} (hn : n ∈ nums l) : n ∈ U l n := by
  obtain ⟨p, hp⟩ := mem_nums.1 hn
  rw [U_eq h hp]
  simp
theorem U_up {m : Nat} {l : Fo} (h : Ok m l) {c a : Int} (hc : (c, a) ∈ l) (ha : a ∈ nums l) : ∀ x ∈ nums l, c ∈ U l x → a ∈ U l x := by
  refine up_ind h (fun x p hx ih hm => ?_)
  rw [U_eq h hx, List.mem_cons] at hm ⊢
  rcases hm with rfl | hm
  · rw [h.uniq hc hx]
    exact .inr (U_self h (by rw [← h.uniq hc hx]; exact ha))
  · exact .inr (ih (U_mem hm) hm)
theorem G_down {m : Nat} {l : Fo} (h : Ok m l) {e : Bool} {x p : Int} (hx : (x, p) ∈ l) : ∀ a ∈ nums l, p ∈ G e l a → x ∈ G e l a := by
  refine tree_ind h (fun a ha ih hm => ?_)
  rw [G_eq h ha, List.mem_cons, List.mem_flatMap] at hm ⊢
  rcases hm with rfl | ⟨c, hc, hm⟩
  · exact .inr ⟨x, mem_ord.2 (mem_ch.2 hx), G_self h (mem_nums.2 ⟨_, hx⟩)⟩
  · exact .inr ⟨c, hc, ih c (mem_ord.1 hc) hm⟩
theorem G_to_U {m : Nat} {l : Fo} (h : Ok m l) {e : Bool} : ∀ a ∈ nums l, ∀ x ∈ G e l a, a ∈ U l x := by
  refine tree_ind h (fun a ha ih x hm => ?_)
  rw [G_eq h ha, List.mem_cons, List.mem_flatMap] at hm
  rcases hm with rfl | ⟨c, hc, hm⟩
  · exact U_self h ha
  · have h1 := ih c (mem_ord.1 hc) x hm
    exact U_up h (mem_ch.1 (mem_ord.1 hc)) ha x (U_mem h1) h1
theorem U_to_G {m : Nat} {l : Fo} (h : Ok m l) {e : Bool} : ∀ x ∈ nums l, ∀ a ∈ U l x, x ∈ G e l a := by
  refine up_ind h (fun x p hx ih a ha => ?_)
  rw [U_eq h hx, List.mem_cons] at ha
  rcases ha with rfl | ha
  · exact G_self h (mem_nums.2 ⟨_, hx⟩)
  · have h1 := ih (U_mem ha) a ha
    refine G_down h hx a (Classical.byContradiction fun hn => ?_) h1
    rw [G_out hn] at h1
    cases h1
theorem mem_G_iff {m : Nat} {l : Fo} (h : Ok m l) {e : Bool} {a x : Int} : x ∈ G e l a ↔ a ∈ U l x := by
  constructor
  · intro hx
    refine G_to_U h a (Classical.byContradiction fun hn => ?_) x hx
    rw [G_out hn] at hx
    cases hx
  · intro ha
    exact U_to_G h x (U_mem ha) a ha
theorem G_nums {m : Nat} {l : Fo} (h : Ok m l) {e : Bool} {a x : Int} (hx : x ∈ G e l a) : x ∈ nums l := U_mem ((mem_G_iff h).1 hx)
theorem U_pos {m : Nat} {l : Fo} (h : Ok m l) : ∀ x ∈ nums l, ∀ y ∈ U l x, ∀ (i j : Nat) (p q : Int), l[i]? = some (y, p) → l[j]? = some (x, q) → i ≤ j := by
  refine up_ind h (fun x p hx ih y hy i j r q hi hj => ?_)
  rw [U_eq h hx, List.mem_cons] at hy
  rcases hy with rfl | hy
  · have h1 : (nums l)[i]? = some y := by simp [nums, hi]
    have h2 : (nums l)[j]? = some y := by simp [nums, hj]
    rw [nd_idx h.nodup h1 h2]
    exact Nat.le_refl _
  · have hp := U_mem hy
    obtain ⟨r2, hr2⟩ := mem_nums.1 hp
    obtain ⟨i2, hi2⟩ := List.getElem?_of_mem hr2
    have hq : q = p := h.uniq (List.mem_of_getElem? hj) hx
    subst hq
    have h1 := h.ahead hi2 hj
    have h2 := ih hp y hy i i2 r r2 hi hi2
    omega
theorem U_par {m : Nat} {l : Fo} (h : Ok m l) {c p : Int} (hc : (c, p) ∈ l) : c ∉ U l p := by
  intro hm
  obtain ⟨q, hq⟩ := mem_nums.1 (U_mem hm)
  obtain ⟨i, hi⟩ := List.getElem?_of_mem hc
  obtain ⟨j, hj⟩ := List.getElem?_of_mem hq
  have h1 := U_pos h p (U_mem hm) c hm i j p q hi hj
  have h2 := h.ahead hj hi
  omega
theorem U_one {m : Nat} {l : Fo} (h : Ok m l) {c1 c2 a : Int} (h1 : (c1, a) ∈ l) (h2 : (c2, a) ∈ l) : ∀ x ∈ nums l, c1 ∈ U l x → c2 ∈ U l x → c1 = c2 := by
  refine up_ind h (fun x p hx ih hm1 hm2 => ?_)
  rw [U_eq h hx, List.mem_cons] at hm1 hm2
  rcases hm1 with rfl | hm1 <;> rcases hm2 with rfl | hm2
  · rfl
  · rw [h.uniq hx h1] at hm2
    exact absurd hm2 (U_par h h2)
  · rw [h.uniq hx h2] at hm1
    exact absurd hm1 (U_par h h1)
  · exact ih (U_mem hm1) hm1 hm2
theorem fm_nodup {f : Int → List Int} : ∀ {L : List Int}, L.Nodup → (∀ c ∈ L, (f c).Nodup) → (∀ c1 ∈ L, ∀ c2 ∈ L, ∀ x, x ∈ f c1 → x ∈ f c2 → c1 = c2) → (L.flatMap f).Nodup
  | [], _, _, _ => by simp
  | c :: L, h1, h2, h3 => by
    rw [List.nodup_cons] at h1
    rw [List.flatMap_cons, List.nodup_append]
    refine ⟨h2 c (by simp), fm_nodup h1.2 (fun x hx => h2 x (by simp [hx])) (fun a ha b hb => h3 a (by simp [ha]) b (by simp [hb])), fun a ha b hb e => ?_⟩
    subst e
    rw [List.mem_flatMap] at hb
    obtain ⟨d, hd, hb⟩ := hb
    have := h3 c (by simp) d (by simp [hd]) a ha hb
    subst this
    exact h1.1 hd
theorem nd_rev {c : List Int} (h : c.Nodup) : c.reverse.Nodup := List.pairwise_reverse.2 (h.imp (fun h e => h e.symm))
theorem ord_nodup {e : Bool} {c : List Int} (h : c.Nodup) : (ord e c).Nodup := by
  unfold ord
  split
  · exact h
  · exact nd_rev h
theorem G_nodup {m : Nat} {l : Fo} (h : Ok m l) (e : Bool) (n : Int) : (G e l n).Nodup := by
  by_cases hn : n ∈ nums l
  · refine tree_ind h (P := fun n => (G e l n).Nodup) (fun a ha ih => ?_) n hn
    rw [G_eq h ha, List.nodup_cons]
    refine ⟨fun hm => ?_, fm_nodup (ord_nodup (h.chNodup a)) (fun c hc => ih c (mem_ord.1 hc)) (fun c1 hc1 c2 hc2 x hx1 hx2 => ?_)⟩
    · rw [List.mem_flatMap] at hm
      obtain ⟨c, hc, hm⟩ := hm
      exact U_par h (mem_ch.1 (mem_ord.1 hc)) ((mem_G_iff h).1 hm)
    · exact U_one h (mem_ch.1 (mem_ord.1 hc1)) (mem_ch.1 (mem_ord.1 hc2)) x (G_nums h hx1) ((mem_G_iff h).1 hx1) ((mem_G_iff h).1 hx2)
  · rw [G_out hn]; exact List.nodup_nil
theorem G_len {m : Nat} {l : Fo} (h : Ok m l) (e : Bool) (n : Int) : (G e l n).length ≤ m := pigeon m _ (G_nodup h e n) (fun x hx => h.range x (G_nums h hx))
theorem fm_rev_len {f g : Int → List Int} : ∀ {L : List Int}, (∀ c ∈ L, (f c).length = (g c).length) → (L.reverse.flatMap f).length = (L.flatMap g).length
  | [], _ => rfl
  | c :: L, h => by
    rw [List.reverse_cons, List.flatMap_append, List.length_append, fm_rev_len (fun x hx => h x (by simp [hx]))]
    simp [h c (by simp)]
    omega
theorem G_len_eq {m : Nat} {l : Fo} (h : Ok m l) (n : Int) : (G false l n).length = (G true l n).length := by
  by_cases hn : n ∈ nums l
  · refine tree_ind h (P := fun n => (G false l n).length = (G true l n).length) (fun a ha ih => ?_) n hn
    rw [G_eq h ha, G_eq h ha, List.length_cons, List.length_cons]
    congr 1
    exact fm_rev_len ih
  · rw [G_out hn, G_out hn]
/-- Children ahead of their parents. -/
def Fl (l : Fo) (n : Int) : List Int := (G false l n).reverse
theorem fm_rev {f : Int → List Int} : ∀ (L : List Int), (L.reverse.flatMap f).reverse = L.flatMap (fun c => (f c).reverse)
  | [] => rfl
  | c :: L => by
    rw [List.reverse_cons, List.flatMap_append, List.reverse_append, fm_rev L]
    simp
theorem Fl_eq {m : Nat} {l : Fo} (h : Ok m l) {n : Int} (hn : n ∈ nums l) : Fl l n = (ch l n).flatMap (Fl l) ++ [n] := by
  unfold Fl
  rw [G_eq h hn, List.reverse_cons]
  show ((ch l n).reverse.flatMap (G false l)).reverse ++ [n] = _
  rw [fm_rev]
theorem Fl_out {l : Fo} {n : Int} (hn : n ∉ nums l) : Fl l n = [] := by unfold Fl; rw [G_out hn]; rfl
theorem mem_Fl {m : Nat} {l : Fo} (h : Ok m l) {a x : Int} : x ∈ Fl l a ↔ x ∈ G true l a := by
  unfold Fl
  rw [List.mem_reverse, mem_G_iff h, mem_G_iff h]
theorem Fl_nodup {m : Nat} {l : Fo} (h : Ok m l) (n : Int) : (Fl l n).Nodup := nd_rev (G_nodup h false n)
theorem Fl_len {m : Nat} {l : Fo} (h : Ok m l) (n : Int) : (Fl l n).length = (G true l n).length := by unfold Fl; rw [List.length_reverse, G_len_eq h]

/-- Each stands behind its children. -/
def Bef (l : Fo) : List Int → List Int → Prop
  | _, [] => True
  | q, x :: L => (∀ c ∈ ch l x, c ∈ q) ∧ Bef l (x :: q) L
theorem Bef.app {l : Fo} : ∀ {A B q : List Int}, Bef l q A → (∀ q', (∀ x ∈ A, x ∈ q') → Bef l q' B) → Bef l q (A ++ B)
  | [], B, q, _, h => h q (fun x hx => by cases hx)
  | x :: A, B, q, h1, h2 => by
    refine ⟨h1.1, ?_⟩
    have key : ∀ {A B q : List Int} {x : Int}, x ∈ q → Bef l q A → (∀ q', (∀ y ∈ x :: A, y ∈ q') → Bef l q' B) → Bef l q (A ++ B) := by
      intro A
      induction A with
      | nil => intro B q x hx _ h; exact h q (fun y hy => by rw [List.mem_singleton] at hy; rw [hy]; exact hx)
      | cons a A ih =>
        intro B q x hx ha hb
        refine ⟨ha.1, ?_⟩
        have h3 : Bef l (a :: q) A := ha.2
        -- both x and a must be remembered
        have key2 : ∀ {A B q S : List Int}, (∀ y ∈ S, y ∈ q) → Bef l q A → (∀ q', (∀ y ∈ S ++ A, y ∈ q') → Bef l q' B) → Bef l q (A ++ B) := by
          intro A
          induction A with
          | nil => intro B q S hS _ h; exact h q (fun y hy => hS y (by simpa using hy))
          | cons b A ih2 =>
            intro B q S hS hA hB
            refine ⟨hA.1, ih2 (S := S ++ [b]) (fun y hy => ?_) hA.2 (fun q' hq' => hB q' (fun y hy => hq' y (by simpa using hy)))⟩
            rw [List.mem_append, List.mem_singleton] at hy
            rcases hy with hy | rfl
            · exact List.mem_cons_of_mem _ (hS y hy)
            · simp
        exact key2 (S := [x, a]) (fun y hy => by
          simp only [List.mem_cons, List.not_mem_nil, or_false] at hy
          rcases hy with rfl | rfl
          · exact List.mem_cons_of_mem _ hx
          · simp) h3 (fun q' hq' => hb q' (fun y hy => hq' y (by simpa using hy)))
    exact key (x := x) (by simp) h1.2 (fun q' hq' => h2 q' hq')
theorem Bef.fm {l : Fo} {f : Int → List Int} : ∀ {L : List Int}, (∀ c ∈ L, ∀ q, Bef l q (f c)) → ∀ q, Bef l q (L.flatMap f)
  | [], _, _ => trivial
  | c :: L, h, q => by
    rw [List.flatMap_cons]
    exact (h c (by simp) q).app (fun q' _ => Bef.fm (fun x hx => h x (by simp [hx])) q')
theorem Fl_bef {m : Nat} {l : Fo} (h : Ok m l) : ∀ a ∈ nums l, ∀ q, Bef l q (Fl l a) := by
  refine tree_ind h (fun a ha ih q => ?_)
  rw [Fl_eq h ha]
  refine (Bef.fm ih q).app (fun q' hq' => ⟨fun c hc => hq' c ?_, trivial⟩)
  rw [List.mem_flatMap]
  exact ⟨c, hc, (mem_Fl h).2 (G_self h (ch_mem hc))⟩
theorem Bef.get {l : Fo} : ∀ {L q : List Int} {i : Nat} {x : Int}, Bef l q L → L[i]? = some x → ∀ c ∈ ch l x, c ∈ q ∨ c ∈ L.take i
  | [], _, _, _, _, h => by simp at h
  | y :: L, q, 0, x, h, hx => by
    simp at hx
    subst hx
    exact fun c hc => .inl (h.1 c hc)
  | y :: L, q, i + 1, x, h, hx => by
    rw [List.getElem?_cons_succ] at hx
    intro c hc
    rcases h.2.get hx c hc with h1 | h1
    · rw [List.mem_cons] at h1
      rcases h1 with h1 | h1
      · exact .inr (by rw [List.take_succ_cons, h1]; simp)
      · exact .inl h1
    · exact .inr (by rw [List.take_succ_cons]; exact List.mem_cons_of_mem _ h1)
/-- All of a list are cut. -/
def cuts (l : Fo) (A : List Int) : Fo := l.filter (fun x => decide (x.1 ∉ A))
theorem cuts_nil (l : Fo) : cuts l [] = l := by unfold cuts; rw [List.filter_eq_self]; intro a _; simp
theorem cuts_snoc (l : Fo) (A : List Int) (n : Int) : cut (cuts l A) n = cuts l (A ++ [n]) := by
  unfold cut cuts
  rw [List.filter_filter]
  apply List.filter_congr
  intro x _
  by_cases h1 : x.1 = n <;> by_cases h2 : x.1 ∈ A <;> simp [h1, h2]
theorem nums_cuts {l : Fo} {A : List Int} {k : Int} : k ∈ nums (cuts l A) ↔ k ∈ nums l ∧ k ∉ A := by
  rw [mem_nums, mem_nums]
  constructor
  · rintro ⟨p, hp⟩
    have := List.mem_filter.1 hp
    exact ⟨⟨p, this.1⟩, by simpa using this.2⟩
  · rintro ⟨⟨p, hp⟩, hn⟩
    exact ⟨p, List.mem_filter.2 ⟨hp, by simpa using hn⟩⟩
theorem ch_cuts_nil {l : Fo} {A : List Int} {x : Int} (h : ∀ c ∈ ch l x, c ∈ A) : ch (cuts l A) x = [] := by
  apply List.eq_nil_iff_forall_not_mem.2
  intro k hk
  have h1 := List.mem_filter.1 (mem_ch.1 hk)
  have h2 := h k (mem_ch.2 h1.1)
  simp [h2] at h1
/-- Cutting in Fall's order. -/
theorem fall_step {m : Nat} {l : Fo} (h : Ok m l) {n : Int} {i : Nat} {x : Int} (hx : (Fl l n)[i]? = some x) : x ∈ nums (cuts l ((Fl l n).take i)) ∧ ch (cuts l ((Fl l n).take i)) x = [] ∧ cut (cuts l ((Fl l n).take i)) x = cuts l ((Fl l n).take (i + 1)) := by
  have hn : n ∈ nums l := Classical.byContradiction fun hn => by rw [Fl_out hn] at hx; simp at hx
  have hlt := (List.getElem?_eq_some_iff.1 hx).1
  have he : (Fl l n)[i] = x := (List.getElem?_eq_some_iff.1 hx).2
  refine ⟨nums_cuts.2 ⟨G_nums h ((mem_Fl h).1 (List.mem_of_getElem? hx)), fun hm => ?_⟩, ch_cuts_nil (fun c hc => ?_), ?_⟩
  · obtain ⟨j, hj⟩ := List.getElem?_of_mem hm
    rw [List.getElem?_take] at hj
    split at hj
    · next hji =>
      have := nd_idx (Fl_nodup h n) hj hx
      omega
    · cases hj
  · rcases (Fl_bef h n hn []).get hx c hc with h1 | h1
    · cases h1
    · exact h1
  · rw [cuts_snoc, List.take_succ_eq_append_getElem hlt, he]
end Go.Proofs.Ytlelglfdamakaaa
