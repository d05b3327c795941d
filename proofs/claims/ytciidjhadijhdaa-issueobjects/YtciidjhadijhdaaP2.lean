import Derived.Test.YtciidjhadijhdaaP1
namespace Go.Proofs.Ytciidjhadijhdaa
set_option linter.unusedVariables false

/-- A node in memory. -/
structure Nd where
  th : Bool
  pa : Int
  fi : Int
  be : Int
/-- The node that isn't there. -/
def nd0 : Nd := ⟨false, 0, 0, 0⟩
def nx (c : List Int) (i : Nat) : Int := (c[i]?).getD (-1)
/-- The nodes in memory stand for the forest l. -/
structure Rep (m : Nat) (l : Fo) (N : List Nd) : Prop where
  len : N.length = m
  ok : Ok m l
  out : ∀ (k : Nat) (x : Nd), N[k]? = some x → (k : Int) ∉ nums l → x = nd0
  inn : ∀ (k : Nat) (x : Nd) (p : Int), N[k]? = some x → ((k : Int), p) ∈ l → x.th = true ∧ x.pa = p
  fi : ∀ (k : Nat) (x : Nd), N[k]? = some x → (k : Int) ∈ nums l → x.fi = nx (ch l k) 0
  be : ∀ (p : Int), 0 ≤ p → ∀ (i k : Nat) (x : Nd), (ch l p)[i]? = some (k : Int) → N[k]? = some x → x.be = nx (ch l p) (i + 1)
theorem get_some {α : Type} {L : List α} {i : Nat} (h : i < L.length) : ∃ p, L[i]? = some p := ⟨L[i], List.getElem?_eq_getElem h⟩
theorem get_set {α : Type} {L : List α} {i j : Nat} {x p : α} (h : (L.set i x)[j]? = some p) : (i = j ∧ p = x) ∨ (i ≠ j ∧ L[j]? = some p) := by
  rw [List.getElem?_set] at h
  split at h
  · next he =>
    split at h
    · exact .inl ⟨he, (Option.some.inj h).symm⟩
    · cases h
  · next he => exact .inr ⟨he, h⟩
theorem Rep.get {m : Nat} {l : Fo} {N : List Nd} (h : Rep m l N) {n : Int} (hn : n ∈ nums l) : ∃ (k : Nat) (x : Nd), n = (k : Int) ∧ k < m ∧ N[k]? = some x := by
  have hr := h.ok.range n hn
  obtain ⟨x, hx⟩ := get_some (L := N) (i := n.toNat) (by rw [h.len]; omega)
  exact ⟨n.toNat, x, by omega, by omega, hx⟩
theorem Rep.there {m : Nat} {l : Fo} {N : List Nd} (h : Rep m l N) {k : Nat} {x : Nd} (hx : N[k]? = some x) : x.th = decide ((k : Int) ∈ nums l) := by
  by_cases hk : (k : Int) ∈ nums l
  · obtain ⟨p, hp⟩ := mem_nums.1 hk
    rw [(h.inn k x p hx hp).1, decide_eq_true hk]
  · rw [h.out k x hx hk, decide_eq_false hk]; rfl
/-- A row of siblings in memory. -/
structure Chain (N : List Nd) (p : Nat) (c : List Int) : Prop where
  top : ∃ x, N[p]? = some x ∧ x.fi = nx c 0
  nxt : ∀ (i : Nat) (a : Int), c[i]? = some a → ∃ (k : Nat) (x : Nd), a = (k : Int) ∧ N[k]? = some x ∧ x.be = nx c (i + 1)
theorem Rep.chain {m : Nat} {l : Fo} {N : List Nd} (h : Rep m l N) {p : Nat} (hp : (p : Int) ∈ nums l) : Chain N p (ch l p) := by
  refine ⟨?_, fun i a ha => ?_⟩
  · obtain ⟨k, x, hk, _, hx⟩ := h.get hp
    have : k = p := by omega
    subst this
    exact ⟨x, hx, h.fi _ _ hx hp⟩
  · obtain ⟨k, x, rfl, _, hx⟩ := h.get (ch_mem (List.mem_of_getElem? ha))
    exact ⟨k, x, rfl, hx, h.be p (by omega) i k x ha hx⟩
/-- The link by which the i-th child is reached: whose, and which. -/
def lkN (p : Nat) (c : List Int) : Nat → Nat
  | 0 => p
  | i + 1 => (nx c i).toNat
def lkF : Nat → Nat
  | 0 => 2
  | _ + 1 => 3
/-- The link is written. -/
def Nd.put (x : Nd) (f : Nat) (v : Int) : Nd := if f = 2 then { x with fi := v } else { x with be := v }
def putL (N : List Nd) (p : Nat) (c : List Int) (i : Nat) (v : Int) : List Nd :=
  match N[lkN p c i]? with
  | some x => N.set (lkN p c i) (x.put (lkF i) v)
  | none => N
theorem putL_len (N : List Nd) (p : Nat) (c : List Int) (i : Nat) (v : Int) : (putL N p c i v).length = N.length := by
  unfold putL; split <;> simp
theorem put_get {N : List Nd} {p : Nat} {c : List Int} {i : Nat} {v : Int} {k : Nat} {x : Nd} (h : (putL N p c i v)[k]? = some x) :
    ∃ y, N[k]? = some y ∧ x.th = y.th ∧ x.pa = y.pa ∧ x.fi = (if i = 0 ∧ k = p then v else y.fi) ∧ x.be = (if 0 < i ∧ k = lkN p c i then v else y.be) := by
  unfold putL at h
  split at h
  · next y hy =>
    rcases get_set h with ⟨hk, rfl⟩ | ⟨hk, h⟩
    · subst hk
      refine ⟨y, hy, ?_⟩
      cases i with
      | zero => simp [Nd.put, lkF, lkN]
      | succ i => simp [Nd.put, lkF]
    · refine ⟨x, h, rfl, rfl, ?_, ?_⟩
      · rw [if_neg]; rintro ⟨rfl, rfl⟩; exact hk rfl
      · rw [if_neg]; rintro ⟨_, rfl⟩; exact hk rfl
  · next hy =>
    refine ⟨x, h, rfl, rfl, ?_, ?_⟩
    · rw [if_neg]; rintro ⟨rfl, rfl⟩; unfold lkN at hy; rw [hy] at h; cases h
    · rw [if_neg]; rintro ⟨_, rfl⟩; rw [hy] at h; cases h
theorem nx_lt {c : List Int} {i : Nat} (h : i < c.length) : nx c i = c[i] := by simp [nx, h]
theorem nx_ge {c : List Int} {i : Nat} (h : c.length ≤ i) : nx c i = -1 := by simp [nx, h]
theorem Rep.init (m : Nat) : Rep m [] (List.replicate m nd0) := by
  refine ⟨by simp, .nil, fun k x hx _ => ?_, fun k x p _ h => (by cases h), fun k x _ h => (by cases h), fun p _ i k x h => ?_⟩
  · rw [List.getElem?_replicate] at hx
    split at hx
    · exact (Option.some.inj hx).symm
    · cases hx
  · simp [ch] at h
/-- A node without a parent. -/
theorem Rep.root {m : Nat} {l : Fo} {N : List Nd} (h : Rep m l N) {n : Nat} (hn : n < m) (hl : (n : Int) ∉ nums l) : Rep m (l ++ [((n : Int), -1)]) (N.set n ⟨true, -1, -1, -1⟩) := by
  have hch : ∀ q : Int, 0 ≤ q → ch (l ++ [((n : Int), -1)]) q = ch l q := fun q hq => by
    rw [ch_app, if_neg (by omega), List.append_nil]
  refine ⟨by rw [List.length_set]; exact h.len, .add h.ok (by omega) (by omega) hl (.inl rfl), fun k x hx hk => ?_, fun k x p hx hp => ?_, fun k x hx hk => ?_, fun p hp i k x hi hx => ?_⟩
  · rw [nums_app, List.mem_append, List.mem_singleton, not_or] at hk
    rcases get_set hx with ⟨rfl, _⟩ | ⟨_, hx⟩
    · exact absurd rfl hk.2
    · exact h.out k x hx hk.1
  · rw [List.mem_append, List.mem_singleton, Prod.mk.injEq] at hp
    rcases get_set hx with ⟨rfl, rfl⟩ | ⟨hne, hx⟩
    · rcases hp with hp | ⟨_, rfl⟩
      · exact absurd (mem_nums.2 ⟨_, hp⟩) hl
      · exact ⟨rfl, rfl⟩
    · rcases hp with hp | ⟨hp, _⟩
      · exact h.inn k x p hx hp
      · omega
  · rw [hch _ (by omega)]
    rw [nums_app, List.mem_append, List.mem_singleton] at hk
    rcases get_set hx with ⟨rfl, rfl⟩ | ⟨hne, hx⟩
    · rw [h.ok.none (by omega) hl]; rfl
    · rcases hk with hk | hk
      · exact h.fi k x hx hk
      · omega
  · rw [hch p hp] at hi ⊢
    have hk := ch_mem (List.mem_of_getElem? hi)
    rcases get_set hx with ⟨rfl, rfl⟩ | ⟨hne, hx⟩
    · exact absurd hk hl
    · exact h.be p hp i k x hi hx
theorem nd_idx {c : List Int} (hc : c.Nodup) {i j : Nat} {a : Int} (h1 : c[i]? = some a) (h2 : c[j]? = some a) : i = j := by
  have hi := (List.getElem?_eq_some_iff.1 h1).1
  exact (List.getElem?_inj hi hc).1 (h1.trans h2.symm)
/-- The new node, named by nobody yet. -/
theorem Rep.chainNew {m : Nat} {l : Fo} {N : List Nd} (h : Rep m l N) {p n : Nat} (hp : (p : Int) ∈ nums l) (hl : (n : Int) ∉ nums l) (y : Nd) : Chain (N.set n y) p (ch l p) := by
  obtain ⟨⟨x, hx, hx2⟩, h2⟩ := h.chain hp
  have hpn : n ≠ p := fun e => hl (by rw [e]; exact hp)
  refine ⟨⟨x, by rw [List.getElem?_set_ne hpn]; exact hx, hx2⟩, fun i a ha => ?_⟩
  obtain ⟨k, z, rfl, hz, hz2⟩ := h2 i a ha
  have hkn : n ≠ k := fun e => hl (by rw [e]; exact ch_mem (List.mem_of_getElem? ha))
  exact ⟨k, z, rfl, by rw [List.getElem?_set_ne hkn]; exact hz, hz2⟩
theorem Rep.child {m : Nat} {l : Fo} {N : List Nd} (h : Rep m l N) {n p : Nat} (hn : n < m) (hp : (p : Int) ∈ nums l) (hl : (n : Int) ∉ nums l) :
    Rep m (l ++ [((n : Int), (p : Int))]) (putL (N.set n ⟨true, p, -1, -1⟩) p (ch l p) (ch l p).length n) := by
  obtain ⟨c, hc⟩ : ∃ c, c = ch l p := ⟨_, rfl⟩
  rw [← hc]
  have hcn : c.Nodup := hc ▸ h.ok.chNodup p
  have hcm : ∀ a ∈ c, a ∈ nums l := fun a ha => ch_mem (hc ▸ ha)
  have hpn : n ≠ p := fun e => hl (by rw [e]; exact hp)
  -- whose link it is
  have hlk : lkN p c c.length ≠ n ∧ ((lkN p c c.length : Nat) : Int) ∈ nums l ∧ (0 < c.length → c[c.length - 1]? = some ((lkN p c c.length : Nat) : Int)) := by
    cases hcl : c.length with
    | zero => exact ⟨fun e => hpn e.symm, hp, fun h => absurd h (Nat.lt_irrefl _)⟩
    | succ j =>
      have hj : j < c.length := by omega
      have hm := hcm _ (List.getElem_mem hj)
      have hr := h.ok.range _ hm
      have e : ((lkN p c (j + 1) : Nat) : Int) = c[j] := by show (((nx c j).toNat : Nat) : Int) = _; rw [nx_lt hj]; omega
      refine ⟨fun e2 => hl ?_, by rw [e]; exact hm, fun _ => by rw [e]; simp⟩
      rw [← e2, e]; exact hm
  have hch : ∀ q : Int, q ≠ p → ch (l ++ [((n : Int), (p : Int))]) q = ch l q := fun q hq => by
    rw [ch_app, if_neg (fun e => hq e.symm), List.append_nil]
  have hchp : ch (l ++ [((n : Int), (p : Int))]) p = c ++ [(n : Int)] := by rw [ch_app, if_pos rfl, hc]
  refine ⟨by rw [putL_len, List.length_set]; exact h.len, .add h.ok (by omega) (by omega) hl (.inr hp), fun k x hx hk => ?_, fun k x q hx hq => ?_, fun k x hx hk => ?_, fun q hq i k x hi hx => ?_⟩
  · rw [nums_app, List.mem_append, List.mem_singleton, not_or] at hk
    obtain ⟨y, hy, h1, h2, h3, h4⟩ := put_get hx
    rw [if_neg (fun e => hk.1 (by rw [e.2]; exact hp))] at h3
    rw [if_neg (fun e => hk.1 (by rw [e.2]; exact hlk.2.1))] at h4
    rcases get_set hy with ⟨rfl, _⟩ | ⟨_, hy⟩
    · exact absurd rfl hk.2
    · have := h.out k y hy hk.1
      subst this
      obtain ⟨a, b, c, d⟩ := x
      simp only at h1 h2 h3 h4
      subst h1 h2 h3 h4
      rfl
  · obtain ⟨y, hy, h1, h2, _, _⟩ := put_get hx
    rw [h1, h2]
    rw [List.mem_append, List.mem_singleton, Prod.mk.injEq] at hq
    rcases get_set hy with ⟨rfl, rfl⟩ | ⟨hne, hy⟩
    · rcases hq with hq | ⟨_, rfl⟩
      · exact absurd (mem_nums.2 ⟨_, hq⟩) hl
      · exact ⟨rfl, rfl⟩
    · rcases hq with hq | ⟨hq, _⟩
      · exact h.inn k y q hy hq
      · omega
  · obtain ⟨y, hy, _, _, h3, _⟩ := put_get hx
    rw [h3]
    rw [nums_app, List.mem_append, List.mem_singleton] at hk
    by_cases hkp : k = p
    · subst hkp
      rw [hchp]
      rcases get_set hy with ⟨rfl, rfl⟩ | ⟨hne, hy⟩
      · exact absurd rfl hpn
      · by_cases hc0 : c.length = 0
        · rw [if_pos ⟨hc0, rfl⟩, List.eq_nil_of_length_eq_zero hc0]; rfl
        · rw [if_neg (fun e => hc0 e.1), h.fi k y hy hp, ← hc, nx_lt (by omega), nx_lt (by simp), List.getElem_append_left (by omega)]
    · rw [if_neg (fun e => hkp e.2), hch _ (by omega)]
      rcases get_set hy with ⟨rfl, rfl⟩ | ⟨hne, hy⟩
      · rw [h.ok.none (by omega) hl]; rfl
      · rcases hk with hk | hk
        · exact h.fi k y hy hk
        · omega
  · obtain ⟨y, hy, _, _, _, h4⟩ := put_get hx
    rw [h4]
    by_cases hqp : q = p
    · subst hqp
      rw [hchp] at hi ⊢
      by_cases hil : i < c.length
      · rw [List.getElem?_append_left hil] at hi
        have hkl := hcm _ (List.mem_of_getElem? hi)
        rcases get_set hy with ⟨rfl, rfl⟩ | ⟨hne, hy⟩
        · exact absurd hkl hl
        · by_cases hi1 : i + 1 = c.length
          · have : (k : Int) = (lkN p c c.length : Nat) := by
              have := hlk.2.2 (by omega)
              rw [show c.length - 1 = i by omega, hi] at this
              exact Option.some.inj this
            rw [if_pos ⟨by omega, by omega⟩, nx_lt (by simp; omega)]
            simp [hi1]
          · rw [if_neg]
            · rw [h.be p (by omega) i k y (hc ▸ hi) hy, ← hc, nx_lt (by omega), nx_lt (by simp; omega), List.getElem_append_left (by omega)]
            · rintro ⟨h5, h6⟩
              have := hlk.2.2 h5
              rw [← h6] at this
              have := nd_idx hcn hi this
              omega
      · rw [List.getElem?_append_right (by omega)] at hi
        have hi0 : i - c.length = 0 := by
          rcases Nat.eq_zero_or_pos (i - c.length) with h | h
          · exact h
          · rw [List.getElem?_eq_none (by simp; omega)] at hi; cases hi
        rw [hi0] at hi
        simp only [List.getElem?_cons_zero, Option.some.injEq] at hi
        have hkn : n = k := by omega
        subst hkn
        rw [if_neg (fun e => hlk.1 e.2.symm), nx_ge (by simp; omega)]
        rcases get_set hy with ⟨_, rfl⟩ | ⟨hne, hy⟩
        · rfl
        · exact absurd rfl hne
    · rw [hch q hqp] at hi ⊢
      have hkl := List.mem_of_getElem? hi
      rcases get_set hy with ⟨rfl, rfl⟩ | ⟨hne, hy⟩
      · exact absurd (ch_mem hkl) hl
      · rw [if_neg]
        · exact h.be q hq i k y hi hy
        · rintro ⟨h5, h6⟩
          have := List.mem_of_getElem? (hlk.2.2 h5)
          rw [← h6, hc] at this
          exact hqp (h.ok.uniq (mem_ch.1 hkl) (mem_ch.1 this))
end Go.Proofs.Ytciidjhadijhdaa
