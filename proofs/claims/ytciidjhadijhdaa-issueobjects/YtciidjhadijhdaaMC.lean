import Derived.Test.YtciidjhadijhdaaA1
import Derived.Test.YtciidjhadijhdaaP2
import Derived.Deep.LoopGhost
namespace Go.Proofs.Ytciidjhadijhdaa
open Go.RowKit
set_option linter.unusedVariables false

/-- A node in memory. -/
structure Pn (w : World) (b o : Nat) (x : Nd) : Prop where
  c0 : w.cell? ⟨b, o, none⟩ = some (.bool x.th)
  c1 : w.cell? ⟨b, o + 1, none⟩ = some (.int .i64 x.pa)
  c2 : w.cell? ⟨b, o + 2, none⟩ = some (.int .i64 x.fi)
  c3 : w.cell? ⟨b, o + 3, none⟩ = some (.int .i64 x.be)
theorem Pn.but {S : Nat → Prop} {w w' : World} {b o : Nat} {x : Nd} (hb : But S w w') (h : Pn w b o x) (hn : ¬ S b) : Pn w' b o x :=
  ⟨cell_but hb h.c0 hn, cell_but hb h.c1 hn, cell_but hb h.c2 hn, cell_but hb h.c3 hn⟩
/-- The forest in memory. -/
structure Tm (w : World) (g gb m : Nat) (N : List Nd) : Prop where
  a0 : w.cell? ⟨g, 0, none⟩ = some (.slice (some ⟨gb, 0, none⟩) m m)
  fr : ∀ j, w.frozen? ⟨gb, j, none⟩ = false
  at_ : ∀ (i : Nat) (x : Nd), N[i]? = some x → Pn w gb (i * 4) x
  ne : g ≠ gb
  lt2 : gb < w.heap.size
  len : N.length = m
  big : m ≤ 1024
theorem Tm.lt {w : World} {g gb m : Nat} {N : List Nd} (h : Tm w g gb m N) : g < w.heap.size := World.block_lt_of_cell? _ _ h.a0
theorem Tm.but {S : Nat → Prop} {w w' : World} {g gb m : Nat} {N : List Nd} (hb : But S w w') (h : Tm w g gb m N) (h1 : ¬ S g) (h2 : ¬ S gb) : Tm w' g gb m N :=
  ⟨cell_but hb h.a0 h1, fun j => by rw [World.frozen?_of_block (w := w) (hb.block gb h.lt2 h2)]; exact h.fr j, fun i p hp => (h.at_ i p hp).but hb h2, h.ne, Nat.lt_of_lt_of_le h.lt2 hb.size, h.len, h.big⟩
theorem Tm.later {w w' : World} {g gb m : Nat} {N : List Nd} (hb : Below w.heap.size w w') (h : Tm w g gb m N) : Tm w' g gb m N := h.but (S := fun _ => False) (But.of hb) (fun h => h) (fun h => h)
theorem cell_ne {w : World} {b o o' : Nat} {u v : Value} (h : w.cell? ⟨b, o, none⟩ = some v) (hne : o ≠ o') : (w.setCell ⟨b, o', none⟩ u).cell? ⟨b, o, none⟩ = some v := by
  rw [World.cell?_setCell_other _ _ _ _ (fun e => hne (by cases e; rfl))]; exact h
theorem cell_nb {w : World} {b b' o o' : Nat} {u v : Value} (h : w.cell? ⟨b, o, none⟩ = some v) (hne : b ≠ b') : (w.setCell ⟨b', o', none⟩ u).cell? ⟨b, o, none⟩ = some v := by
  rw [World.cell?_setCell_other _ _ _ _ (fun e => hne (by cases e; rfl))]; exact h

set_option maxRecDepth 100000 in
set_option maxHeartbeats 1000000 in
theorem at_ok {w : World} {g gb m : Nat} {N : List Nd} (h : Tm w g gb m N) (n : Nat) (hn : n < m) :
    Calls Try.prog 76 #[.pointer (some ⟨g, 0, none⟩), .int .i64 (n : Int)] w fun e w' => e = .returned (.pointer (some ⟨gb, n * 4, none⟩)) ∧ w' = w := by
  have x := h.a0
  have hb := h.big
  clear h
  have h1 : ¬ (n : Int) < 0 := by omega
  have h2 : ¬ (m : Int) ≤ (n : Int) := by omega
  go_enter Try.func76, Try.ntmps76
  go_wp2
  go_ret
  exact ⟨by simp, rfl⟩
set_option maxRecDepth 100000 in
set_option maxHeartbeats 1000000 in
theorem at_bad {w : World} {g gb m : Nat} {N : List Nd} (h : Tm w g gb m N) (n : Int) (hn : n < 0 ∨ (m : Int) ≤ n) :
    Calls Try.prog 76 #[.pointer (some ⟨g, 0, none⟩), .int .i64 n] w fun e w' => e = .returned (.pointer none) ∧ w' = w := by
  have x := h.a0
  have hb := h.big
  clear h
  by_cases h1 : n < 0
  · clear hn
    go_enter Try.func76, Try.ntmps76
    go_wp2
    go_ret
    exact ⟨rfl, rfl⟩
  · have h2 : (m : Int) ≤ n := by omega
    clear hn
    go_enter Try.func76, Try.ntmps76
    go_wp2
    go_ret
    exact ⟨rfl, rfl⟩
/-- The program's forest: which nodes there are. -/
def Ki (w : World) (g gb m : Nat) (l : Fo) : Prop := ∃ N, Tm w g gb m N ∧ Rep m l N
theorem Ki.later {w w' : World} {g gb m : Nat} {l : Fo} (hb : Below w.heap.size w w') (h : Ki w g gb m l) : Ki w' g gb m l := by
  obtain ⟨N, h1, h2⟩ := h
  exact ⟨N, h1.later hb, h2⟩
theorem Ki.but {S : Nat → Prop} {w w' : World} {g gb m : Nat} {l : Fo} (hb : But S w w') (h : Ki w g gb m l) (hg : ¬ S g) (hgb : ¬ S gb) : Ki w' g gb m l := by
  obtain ⟨N, h1, h2⟩ := h
  exact ⟨N, h1.but hb hg hgb, h2⟩
theorem Ki.ok {w : World} {g gb m : Nat} {l : Fo} (h : Ki w g gb m l) : Ok m l := by
  obtain ⟨N, h1, h2⟩ := h
  exact h2.ok
set_option maxRecDepth 100000 in
set_option maxHeartbeats 1000000 in
theorem has_any {w : World} {g gb m : Nat} {l : Fo} (h : Ki w g gb m l) (n : Int) :
    Calls Try.prog 65 #[.pointer (some ⟨g, 0, none⟩), .int .i64 n] w fun e w' => e = .returned (.bool (decide (n ∈ nums l))) ∧ w' = w := by
  obtain ⟨N, hT, hR⟩ := h
  by_cases hn : n < 0 ∨ (m : Int) ≤ n
  · have hf : decide (n ∈ nums l) = false := decide_eq_false (fun hk => by have := hR.ok.range n hk; omega)
    rw [hf]
    have hc := at_bad hT n hn
    clear hT hR hn
    go_enter Try.func65, Try.ntmps65
    go_wp2_with (go_at_call 76; refine hc.mono ?_; rintro e w1 ⟨rfl, rfl⟩)
    go_ret
    exact ⟨rfl, rfl⟩
  · obtain ⟨k, rfl⟩ : ∃ k : Nat, n = (k : Int) := ⟨n.toNat, by omega⟩
    obtain ⟨x, hx⟩ := get_some (L := N) (i := k) (by rw [hT.len]; omega)
    rw [← hR.there hx]
    have hc := at_ok hT k (by omega)
    have c0 := (hT.at_ k x hx).c0
    clear hT hR hn
    go_enter Try.func65, Try.ntmps65
    go_wp2_with (go_at_call 76; refine hc.mono ?_; rintro e w1 ⟨rfl, rfl⟩)
    go_ret
    exact ⟨rfl, rfl⟩
end Go.Proofs.Ytciidjhadijhdaa
namespace Go.Proofs.Ytciidjhadijhdaa
open Go.RowKit
set_option linter.unusedVariables false

/-- t.at, as a value. -/
abbrev atV (g : Nat) : Value := .func (.func 76) #[.pointer (some ⟨g, 0, none⟩)] #[]
set_option maxRecDepth 100000 in
set_option maxHeartbeats 1000000 in
theorem parent_in {w : World} {g gb m : Nat} {l : Fo} (h : Ki w g gb m l) (n p : Int) (hn : (n, p) ∈ l) :
    Calls Try.prog 69 #[.pointer (some ⟨g, 0, none⟩), .int .i64 n] w fun e w' => e = .returned (.tuple #[.int .i64 p, .bool true]) ∧ w' = w := by
  have hm := mem_nums.2 ⟨p, hn⟩
  have hh := has_any h n
  rw [decide_eq_true hm] at hh
  obtain ⟨N, hT, hR⟩ := h
  obtain ⟨k, x, rfl, hk, hx⟩ := hR.get hm
  have hc := at_ok hT k hk
  have c1 := (hT.at_ k x hx).c1
  rw [(hR.inn k x p hx hn).2] at c1
  clear hT hR hn hm
  go_enter Try.func69, Try.ntmps69
  go_wp2_with (first | (go_at_call 65; refine hh.mono ?_; rintro e w1 ⟨rfl, rfl⟩) | (go_at_call 76; refine hc.mono ?_; rintro e w1 ⟨rfl, rfl⟩))
  exact bodyPost_ret (v := .tuple #[.int .i64 p, .bool true]) (by simp [results, Try.results69, go_sem]) rfl ⟨rfl, rfl⟩
/-- The link's place. -/
def lkA (gb p : Nat) (c : List Int) (i : Nat) : Value := .pointer (some ⟨gb, lkN p c i * 4 + lkF i, none⟩)
def LinkRel (gb p : Nat) (c : List Int) (s : Nat) (w : World) (k : Nat) (t : Value) (w' : World) : Prop := ∃ i, i + k = s ∧ t = lkA gb p c i ∧ w' = w
theorem Chain.cell {w : World} {g gb m : Nat} {N : List Nd} (h : Tm w g gb m N) {p : Nat} {c : List Int} (hc : Chain N p c) {i : Nat} (hi : i ≤ c.length) :
    lkN p c i < m ∧ w.cell? ⟨gb, lkN p c i * 4 + lkF i, none⟩ = some (.int .i64 (nx c i)) := by
  cases i with
  | zero =>
    obtain ⟨x, hx, hx2⟩ := hc.top
    have := (List.getElem?_eq_some_iff.1 hx).1
    rw [← hx2]
    exact ⟨by rw [← h.len]; exact this, (h.at_ p x hx).c2⟩
  | succ j =>
    obtain ⟨k, x, hk, hx, hx2⟩ := hc.nxt j _ (List.getElem?_eq_getElem (by omega))
    have := (List.getElem?_eq_some_iff.1 hx).1
    have e : lkN p c (j + 1) = k := by
      show (nx c j).toNat = k
      rw [nx_lt (by omega)]; omega
    rw [e, ← hx2]
    exact ⟨by rw [← h.len]; exact this, (h.at_ k x hx).c3⟩
theorem Chain.num {N : List Nd} {p : Nat} {c : List Int} (hc : Chain N p c) {m : Nat} (hm : N.length = m) {i : Nat} (hi : i < c.length) : ∃ k : Nat, nx c i = (k : Int) ∧ k < m ∧ lkN p c (i + 1) = k := by
  obtain ⟨k, x, hk, hx, hx2⟩ := hc.nxt i _ (List.getElem?_eq_getElem hi)
  have := (List.getElem?_eq_some_iff.1 hx).1
  refine ⟨k, by rw [nx_lt hi]; exact hk, by omega, ?_⟩
  show (nx c i).toNat = k
  rw [nx_lt hi]; omega
set_option maxRecDepth 100000 in
set_option maxHeartbeats 1000000 in
theorem linkTo_any {w : World} {g gb m : Nat} {N : List Nd} (h : Tm w g gb m N) {p : Nat} {c : List Int} (hc : Chain N p c) (v : Int) (s : Nat) (hs : s ≤ c.length) (hv : nx c s = v) (hn : ∀ i, i < s → nx c i ≠ v) :
    Calls Try.prog 81 #[atV g, .int .i64 (p : Int), .int .i64 v] w fun e w' => e = .returned (lkA gb p c s) ∧ w' = w := by
  have HT := hid h
  have HC := hid hc
  have HN := hid hn
  have HV := hid hv
  have hp := (Chain.cell h hc (Nat.zero_le _)).1
  have HM := hid h.len
  clear h hc hn hv
  go_enter Try.func81, Try.ntmps81
  go_upto_region 2 with (first | (go_at_call 76; refine (at_ok HT.out p hp).mono ?_; rintro e w1 ⟨rfl, rfl⟩))
  go_loopg [7] s (LinkRel gb p c s w1)
  case atStart => exact ⟨0, by omega, by simp [lkA, lkN, lkF], rfl⟩
  case round =>
    obtain ⟨i, hi, rfl, rfl⟩ := hrel
    obtain ⟨h1, h2⟩ := Chain.cell HT.out HC.out (i := i) (by omega)
    by_cases hlt : i < s
    · have hne := HN.out i hlt
      obtain ⟨k, hk, hk2, hk3⟩ := HC.out.num HM.out (i := i) (by omega)
      have hK3 := hid hk3
      rw [hk] at h2 hne
      clear h1 hk hk3
      unfold lkA
      have hne2 : ((k : Int) == v) = false := by simpa using hne
      go_wp2_with (first | (go_at_call 76; refine (at_ok HT.out k hk2).mono ?_; rintro e w1 ⟨rfl, rfl⟩))
      go_roundg (gk - 1)
      case measure => omega
      case rel => exact ⟨i + 1, by omega, by simp [lkA, lkF, hK3.out], rfl⟩
    · obtain rfl : i = s := by omega
      rw [HV.out] at h2
      unfold lkA
      go_wp2
      go_ret
      exact ⟨rfl, rfl⟩
end Go.Proofs.Ytciidjhadijhdaa
namespace Go.Proofs.Ytciidjhadijhdaa
open Go.RowKit
set_option linter.unusedVariables false

theorem append_ints {w : World} {base : Nat} {a : Option Addr} {n cap : Nat} {L : List Value} {b : Option Addr} {m c : Nat} {M : List Value} (h : Own w base 3 a n cap L) (k : Row w b m c M) (hb : base ≤ w.heap.size) (hr : (n + m) * 8 ≤ 140737488355328) :
    ∃ a' cap' w', (Builtin.append_ #[49, 49] 49 #[.slice a n cap, .slice b m c]).run Try.prog w = .ok (.slice a' (n + m) cap') w' ∧ Own w' base 3 a' (n + m) cap' (L ++ M) ∧ Gr a a' w w' :=
  append_gen 49 3 _ 8 Try.underlying49 info3 rfl h k hb hr (by omega)
theorem take_step (A : List Int) (i : Nat) (h : i < A.length) : A.take (i + 1) = A.take i ++ [A[i]] := by
  rw [List.take_succ_eq_append_getElem h]
theorem ch_len (l : Fo) (p : Int) : (ch l p).length ≤ l.length := by
  have := (ch_sub l p).length_le
  simpa [nums] using this
end Go.Proofs.Ytciidjhadijhdaa
namespace Go.Proofs.Ytciidjhadijhdaa
open Go.RowKit
set_option linter.unusedVariables false

/-- One cell of the nodes is written. -/
theorem Tm.cell {w : World} {g gb m : Nat} {N N' : List Nd} {o : Nat} {u : Value} (h : Tm w g gb m N) (hl : N'.length = m)
    (hat : ∀ (i : Nat) (x : Nd), N'[i]? = some x → Pn (w.setCell ⟨gb, o, none⟩ u) gb (i * 4) x) : Tm (w.setCell ⟨gb, o, none⟩ u) g gb m N' :=
  ⟨cell_nb h.a0 h.ne, fun j => by simpa using h.fr j, hat, h.ne, by simpa [World.setCell] using h.lt2, hl, h.big⟩
theorem Pn.off {w : World} {b o o' : Nat} {x : Nd} {u : Value} (h : Pn w b o x) (hne : o' < o ∨ o + 4 ≤ o') : Pn (w.setCell ⟨b, o', none⟩ u) b o x :=
  ⟨cell_ne h.c0 (by omega), cell_ne h.c1 (by omega), cell_ne h.c2 (by omega), cell_ne h.c3 (by omega)⟩
theorem Tm.setPa {w : World} {g gb m : Nat} {N : List Nd} {i : Nat} {x : Nd} (h : Tm w g gb m N) (hx : N[i]? = some x) (v : Int) : Tm (w.setCell ⟨gb, i * 4 + 1, none⟩ (.int .i64 v)) g gb m (N.set i ⟨x.th, v, x.fi, x.be⟩) := by
  refine h.cell (by rw [List.length_set]; exact h.len) (fun j q hq => ?_)
  rcases get_set hq with ⟨rfl, rfl⟩ | ⟨hne, h3⟩
  · have hP := h.at_ _ _ hx
    exact ⟨cell_ne hP.c0 (by omega), World.cell?_setCell_same _ _ _ hP.c1, cell_ne hP.c2 (by omega), cell_ne hP.c3 (by omega)⟩
  · exact (h.at_ _ _ h3).off (by omega)
theorem Tm.setLk {w : World} {g gb m : Nat} {N : List Nd} (h : Tm w g gb m N) {p : Nat} {c : List Int} (hc : Chain N p c) {i : Nat} (hi : i ≤ c.length) (v : Int) :
    Tm (w.setCell ⟨gb, lkN p c i * 4 + lkF i, none⟩ (.int .i64 v)) g gb m (putL N p c i v) := by
  obtain ⟨h1, h2⟩ := Chain.cell h hc hi
  obtain ⟨x, hx⟩ := get_some (L := N) (i := lkN p c i) (by rw [h.len]; exact h1)
  unfold putL
  rw [hx]
  generalize lkN p c i = k at *
  refine h.cell (by rw [List.length_set]; exact h.len) (fun j q hq => ?_)
  rcases get_set hq with ⟨rfl, rfl⟩ | ⟨hne, h3⟩
  · have hP := h.at_ _ _ hx
    cases i with
    | zero => exact ⟨cell_ne hP.c0 (by simp [lkF]), cell_ne hP.c1 (by simp [lkF]), World.cell?_setCell_same _ _ _ hP.c2, cell_ne hP.c3 (by simp [lkF])⟩
    | succ i => exact ⟨cell_ne hP.c0 (by simp [lkF]), cell_ne hP.c1 (by simp [lkF]), cell_ne hP.c2 (by simp [lkF]), World.cell?_setCell_same _ _ _ hP.c3⟩
  · have : lkF i < 4 := by cases i <;> simp [lkF]
    exact (h.at_ _ _ h3).off (by omega)
/-- A whole node is written. -/
def setN (w : World) (b o : Nat) (x : Nd) : World :=
  (((w.setCell ⟨b, o, none⟩ (.bool x.th)).setCell ⟨b, o + 1, none⟩ (.int .i64 x.pa)).setCell ⟨b, o + 2, none⟩ (.int .i64 x.fi)).setCell ⟨b, o + 3, none⟩ (.int .i64 x.be)
theorem setN_but {S : Nat → Prop} {a w : World} (h : But S a w) {b : Nat} (hb : S b) (o : Nat) (x : Nd) : But S a (setN w b o x) :=
  (((h.setCell (p := ⟨b, o, none⟩) hb _).setCell (p := ⟨b, o + 1, none⟩) hb _).setCell (p := ⟨b, o + 2, none⟩) hb _).setCell (p := ⟨b, o + 3, none⟩) hb _
theorem Pn.set {w : World} {b o : Nat} {y : Nd} (h : Pn w b o y) (x : Nd) : Pn (setN w b o x) b o x := by
  have s0 := World.cell?_setCell_same w ⟨b, o, none⟩ (.bool x.th) h.c0
  have s1 := World.cell?_setCell_same (w.setCell ⟨b, o, none⟩ (.bool x.th)) ⟨b, o + 1, none⟩ (.int .i64 x.pa) (cell_ne h.c1 (by omega))
  have s2 := World.cell?_setCell_same ((w.setCell ⟨b, o, none⟩ (.bool x.th)).setCell ⟨b, o + 1, none⟩ (.int .i64 x.pa)) ⟨b, o + 2, none⟩ (.int .i64 x.fi) (cell_ne (cell_ne h.c2 (by omega)) (by omega))
  unfold setN
  exact ⟨cell_ne (cell_ne (cell_ne s0 (by omega)) (by omega)) (by omega), cell_ne (cell_ne s1 (by omega)) (by omega), cell_ne s2 (by omega), World.cell?_setCell_same _ _ _ (cell_ne (cell_ne (cell_ne h.c3 (by omega)) (by omega)) (by omega))⟩
theorem Pn.setOff {w : World} {b o o' : Nat} {y : Nd} (h : Pn w b o y) (x : Nd) (hne : o' + 4 ≤ o ∨ o + 4 ≤ o') : Pn (setN w b o' x) b o y := by
  unfold setN
  exact (((h.off (by omega)).off (by omega)).off (by omega)).off (by omega)
theorem Tm.set {w : World} {g gb m : Nat} {N : List Nd} {i : Nat} {y : Nd} (h : Tm w g gb m N) (hy : N[i]? = some y) (x : Nd) : Tm (setN w gb (i * 4) x) g gb m (N.set i x) := by
  have hb : But (· = gb) w (setN w gb (i * 4) x) := setN_but (S := (· = gb)) (But.refl _ _) (b := gb) (by rfl) _ _
  refine ⟨cell_but hb h.a0 h.ne, fun j => by have := h.fr j; unfold setN; simpa using this, fun j q hq => ?_, h.ne, Nat.lt_of_lt_of_le h.lt2 hb.size, by rw [List.length_set]; exact h.len, h.big⟩
  rcases get_set hq with ⟨rfl, rfl⟩ | ⟨hne, h3⟩
  · exact (h.at_ _ _ hy).set _
  · exact (h.at_ _ _ h3).setOff _ (by omega)
def rootE (m : Nat) (l : Fo) (n : Int) : Int := if 0 ≤ n ∧ n < m then (if n ∈ nums l then 19 else 0) else 20
def rootL (m : Nat) (l : Fo) (n : Int) : Fo := if (0 ≤ n ∧ n < m) ∧ n ∉ nums l then l ++ [(n, -1)] else l
set_option maxRecDepth 100000 in
set_option maxHeartbeats 1000000 in
theorem root_mem {w : World} {g gb m : Nat} {N : List Nd} {l : Fo} (hT : Tm w g gb m N) (hR : Rep m l N) (k : Nat) (hk : k < m) (hn : (k : Int) ∉ nums l) :
    Calls Try.prog 71 #[.pointer (some ⟨g, 0, none⟩), .int .i64 (k : Int)] w fun e w' => e = .returned (.int .i64 0) ∧ Tm w' g gb m (N.set k ⟨true, -1, -1, -1⟩) ∧ But (· = gb) w w' := by
  obtain ⟨x, hx⟩ := get_some (L := N) (i := k) (by rw [hT.len]; exact hk)
  have hc := at_ok hT k hk
  have hP := hT.at_ k x hx
  have c0 := hP.c0
  have c1 := hP.c1
  have c2 := hP.c2
  have c3 := hP.c3
  rw [hR.there hx, decide_eq_false hn] at c0
  have f0 := hT.fr (k * 4)
  have f1 := hT.fr (k * 4 + 1)
  have f2 := hT.fr (k * 4 + 2)
  have f3 := hT.fr (k * 4 + 3)
  have HT := hid (hT.set hx ⟨true, -1, -1, -1⟩)
  have HB : Hid (But (· = gb) w (setN w gb (k * 4) ⟨true, -1, -1, -1⟩)) := setN_but (S := (· = gb)) (But.refl _ _) (b := gb) (by rfl) _ _
  unfold setN at HT HB
  clear hT hR hn hP hx
  go_enter Try.func71, Try.ntmps71
  go_wp2_with (first | (go_at_call 76; refine hc.mono ?_; rintro e w1 ⟨rfl, rfl⟩))
  go_ret
  exact ⟨rfl, HT.out, HB.out⟩
set_option maxRecDepth 100000 in
set_option maxHeartbeats 1000000 in
theorem root_no {w : World} {g gb m : Nat} {l : Fo} (h : Ki w g gb m l) (n : Int) (hn : (n < 0 ∨ (m : Int) ≤ n) ∨ n ∈ nums l) :
    Calls Try.prog 71 #[.pointer (some ⟨g, 0, none⟩), .int .i64 n] w fun e w' => e = .returned (.int .i64 (rootE m l n)) ∧ w' = w := by
  obtain ⟨N, hT, hR⟩ := h
  by_cases h1 : n < 0 ∨ (m : Int) ≤ n
  · rw [show rootE m l n = 20 by unfold rootE; rw [if_neg (by omega)]]
    have hc := at_bad hT n h1
    clear hT hR hn h1
    go_enter Try.func71, Try.ntmps71
    go_wp2_with (first | (go_at_call 76; refine hc.mono ?_; rintro e w1 ⟨rfl, rfl⟩))
    go_ret
    exact ⟨rfl, rfl⟩
  · have h2 : n ∈ nums l := by
      rcases hn with hn | hn
      · exact absurd hn h1
      · exact hn
    rw [show rootE m l n = 19 by unfold rootE; rw [if_pos (by omega), if_pos h2]]
    obtain ⟨k, x, rfl, hk, hx⟩ := hR.get h2
    have hc := at_ok hT k hk
    have c0 := (hT.at_ k x hx).c0
    rw [hR.there hx, decide_eq_true h2] at c0
    clear hT hR hn h1 h2 hx
    go_enter Try.func71, Try.ntmps71
    go_wp2_with (first | (go_at_call 76; refine hc.mono ?_; rintro e w1 ⟨rfl, rfl⟩))
    go_ret
    exact ⟨rfl, rfl⟩
/-- Behind a call that changes the forest. -/
def Did (w : World) (g gb m : Nat) (c : Int) (l : Fo) (e : Ending) (w' : World) : Prop := e = .returned (.int .i64 c) ∧ Ki w' g gb m l ∧ But (· = gb) w w'
theorem root_any {w : World} {g gb m : Nat} {l : Fo} (h : Ki w g gb m l) (n : Int) :
    Calls Try.prog 71 #[.pointer (some ⟨g, 0, none⟩), .int .i64 n] w (Did w g gb m (rootE m l n) (rootL m l n)) := by
  by_cases hn : (0 ≤ n ∧ n < m) ∧ n ∉ nums l
  · obtain ⟨k, rfl⟩ : ∃ k : Nat, n = (k : Int) := ⟨n.toNat, by omega⟩
    obtain ⟨N, hT, hR⟩ := h
    refine (root_mem hT hR k (by omega) hn.2).mono ?_
    rintro e w' ⟨rfl, h1, h2⟩
    refine ⟨by unfold rootE; rw [if_pos hn.1, if_neg hn.2], ⟨_, h1, ?_⟩, h2⟩
    unfold rootL
    rw [if_pos hn]
    exact hR.root (by omega) hn.2
  · refine (root_no h n (by
      by_cases h1 : n ∈ nums l
      · exact .inr h1
      · left
        have : ¬ (0 ≤ n ∧ n < m) := fun h2 => hn ⟨h2, h1⟩
        omega)).mono ?_
    rintro e w' ⟨rfl, rfl⟩
    refine ⟨rfl, ?_, But.refl _ _⟩
    unfold rootL
    rw [if_neg hn]
    exact h
def childE (m : Nat) (l : Fo) (p n : Int) : Int := if p ∈ nums l then rootE m l n else 20
def childL (m : Nat) (l : Fo) (p n : Int) : Fo := if p ∈ nums l ∧ ((0 ≤ n ∧ n < m) ∧ n ∉ nums l) then l ++ [(n, p)] else l
set_option maxRecDepth 100000 in
set_option maxHeartbeats 1000000 in
theorem child_ok {w : World} {g gb m : Nat} {l : Fo} (h : Ki w g gb m l) (p k : Nat) (hp : (p : Int) ∈ nums l) (hk : k < m) (hn : (k : Int) ∉ nums l) :
    Calls Try.prog 72 #[.pointer (some ⟨g, 0, none⟩), .int .i64 (p : Int), .int .i64 (k : Int)] w (Did w g gb m 0 (l ++ [((k : Int), (p : Int))])) := by
  have hh := has_any h (p : Int)
  rw [decide_eq_true hp] at hh
  obtain ⟨N, hT, hR⟩ := h
  have HR := hid hR
  have hroot := hid (root_mem hT hR k hk hn)
  obtain ⟨y, hy⟩ := get_some (L := N.set k ⟨true, -1, -1, -1⟩) (i := k) (by rw [List.length_set, hT.len]; exact hk)
  have HY := hid hy
  have hy2 : y = ⟨true, -1, -1, -1⟩ := by
    rcases get_set hy with ⟨_, h⟩ | ⟨h, _⟩
    · exact h
    · exact absurd rfl h
  have HY2 := hid hy2
  have HC : Hid (Chain ((N.set k ⟨true, -1, -1, -1⟩).set k ⟨y.th, (p : Int), y.fi, y.be⟩) p (ch l p)) := by
    rw [hy2, List.set_set]
    exact hR.chainNew hp hn _
  have HP := hid hp
  have HN := hid hn
  have hcl := hid (fun i (hi : i < (ch l p).length) => show nx (ch l p) i ≠ -1 from by
    rw [nx_lt hi]
    have := hR.ok.range _ (ch_mem (List.getElem_mem hi))
    omega)
  have HZ : Hid (Rep m (l ++ [((k : Int), (p : Int))]) (putL ((N.set k ⟨true, -1, -1, -1⟩).set k ⟨y.th, (p : Int), y.fi, y.be⟩) p (ch l p) (ch l p).length (k : Int))) := by
    rw [hy2, List.set_set]
    exact hR.child hk hp hn
  clear hT hR hn hy hy2 hp
  go_enter Try.func72, Try.ntmps72
  go_upto_region 6 with (first | (go_at_call 65; refine hh.mono ?_; rintro e wA ⟨rfl, rfl⟩) | (go_at_call 71; refine hroot.out.mono ?_; rintro e w2 ⟨rfl, hT2, hB2⟩; have HT2 := hid hT2; have HB2 := hid hB2; clear hT2 hB2))
  have hP := HT2.out.at_ k y HY.out
  have c1 := hP.c1
  have f1 := HT2.out.fr (k * 4 + 1)
  have HT3 := hid (HT2.out.setPa HY.out (p : Int))
  have hc2 := at_ok HT2.out k hk
  clear hP
  go_upto_region 7 with (first | (go_at_call 76; refine hc2.mono ?_; rintro e wB ⟨rfl, rfl⟩))
  obtain ⟨w3, hw3⟩ : ∃ w3 : World, w3 = wB.setCell ⟨gb, k * 4 + 1, none⟩ (.int .i64 (p : Int)) := ⟨_, rfl⟩
  rw [← hw3] at HT3 ⊢
  have HB3 : Hid (But (· = gb) wA w3) := by rw [hw3]; exact HB2.out.setCell (S := (· = gb)) (p := ⟨gb, k * 4 + 1, none⟩) (show gb = gb from rfl) _
  have hlk := linkTo_any HT3.out HC.out (-1) (ch l p).length (Nat.le_refl _) (nx_ge (Nat.le_refl _)) hcl.out
  obtain ⟨_, hcell⟩ := Chain.cell HT3.out HC.out (i := (ch l p).length) (Nat.le_refl _)
  have ff := HT3.out.fr (lkN p (ch l p) (ch l p).length * 4 + lkF (ch l p).length)
  have HT4 := hid (HT3.out.setLk HC.out (Nat.le_refl _) (k : Int))
  unfold lkA at hlk
  have HB4 : Hid (But (· = gb) wA (w3.setCell ⟨gb, lkN p (ch l p) (ch l p).length * 4 + lkF (ch l p).length, none⟩ (.int .i64 (k : Int)))) := HB3.out.setCell (S := (· = gb)) (p := ⟨gb, _, none⟩) (show gb = gb from rfl) _
  generalize lkN p (ch l p) (ch l p).length * 4 + lkF (ch l p).length = o at *
  clear hw3 f1 c1 hc2 hh
  go_wp2_with (first | (go_at_call 81; refine hlk.mono ?_; rintro e w5 ⟨rfl, rfl⟩))
  go_ret
  exact ⟨rfl, ⟨_, HT4.out, HZ.out⟩, HB4.out⟩
set_option maxRecDepth 100000 in
set_option maxHeartbeats 1000000 in
theorem child_no {w : World} {g gb m : Nat} {l : Fo} (h : Ki w g gb m l) (p n : Int) (hn : p ∉ nums l ∨ (n < 0 ∨ (m : Int) ≤ n) ∨ n ∈ nums l) :
    Calls Try.prog 72 #[.pointer (some ⟨g, 0, none⟩), .int .i64 p, .int .i64 n] w fun e w' => e = .returned (.int .i64 (childE m l p n)) ∧ w' = w := by
  have hh := has_any h p
  by_cases hp : p ∈ nums l
  · rw [decide_eq_true hp] at hh
    unfold childE
    rw [if_pos hp]
    have hn2 : (n < 0 ∨ (m : Int) ≤ n) ∨ n ∈ nums l := by
      rcases hn with hn | hn
      · exact absurd hp hn
      · exact hn
    have hr := root_no h n hn2
    have hE : rootE m l n = 19 ∨ rootE m l n = 20 := by
      unfold rootE
      split
      · split
        · exact .inl rfl
        · next h1 h2 => rcases hn2 with h3 | h3; omega; exact absurd h3 h2
      · exact .inr rfl
    clear h hn hp hn2
    rcases hE with hE | hE
    · rw [hE] at hr ⊢
      go_enter Try.func72, Try.ntmps72
      go_wp2_with (first | (go_at_call 65; refine hh.mono ?_; rintro e w1 ⟨rfl, rfl⟩) | (go_at_call 71; refine hr.mono ?_; rintro e w1 ⟨rfl, rfl⟩))
      go_ret
      exact ⟨rfl, rfl⟩
    · rw [hE] at hr ⊢
      go_enter Try.func72, Try.ntmps72
      go_wp2_with (first | (go_at_call 65; refine hh.mono ?_; rintro e w1 ⟨rfl, rfl⟩) | (go_at_call 71; refine hr.mono ?_; rintro e w1 ⟨rfl, rfl⟩))
      go_ret
      exact ⟨rfl, rfl⟩
  · rw [decide_eq_false hp] at hh
    unfold childE
    rw [if_neg hp]
    clear h hn hp
    go_enter Try.func72, Try.ntmps72
    go_wp2_with (first | (go_at_call 65; refine hh.mono ?_; rintro e w1 ⟨rfl, rfl⟩))
    go_ret
    exact ⟨rfl, rfl⟩
theorem child_any {w : World} {g gb m : Nat} {l : Fo} (h : Ki w g gb m l) (p n : Int) :
    Calls Try.prog 72 #[.pointer (some ⟨g, 0, none⟩), .int .i64 p, .int .i64 n] w (Did w g gb m (childE m l p n) (childL m l p n)) := by
  by_cases hn : p ∈ nums l ∧ ((0 ≤ n ∧ n < m) ∧ n ∉ nums l)
  · have hp2 := h.ok.range p hn.1
    obtain ⟨k, rfl⟩ : ∃ k : Nat, n = (k : Int) := ⟨n.toNat, by omega⟩
    obtain ⟨p, rfl⟩ : ∃ k : Nat, p = (k : Int) := ⟨p.toNat, by omega⟩
    unfold childE childL
    rw [if_pos hn, if_pos hn.1]
    rw [show rootE m l (k : Int) = 0 by unfold rootE; rw [if_pos hn.2.1, if_neg hn.2.2]]
    exact child_ok h p k hn.1 (by omega) hn.2.2
  · refine (child_no h p n (by
      by_cases h0 : p ∈ nums l
      · right
        by_cases h1 : n ∈ nums l
        · exact .inr h1
        · left
          have : ¬ (0 ≤ n ∧ n < m) := fun h2 => hn ⟨h0, h2, h1⟩
          omega
      · exact .inl h0)).mono ?_
    rintro e w' ⟨rfl, rfl⟩
    refine ⟨rfl, ?_, But.refl _ _⟩
    unfold childL
    rw [if_neg hn]
    exact h
end Go.Proofs.Ytciidjhadijhdaa
namespace Go.Proofs.Ytciidjhadijhdaa
open Go.RowKit
set_option linter.unusedVariables false

theorem info132 : (Try.prog.info? 132).map (fun i => (i.zero, i.size, i.bytes)) = some (some (.agg #[.bool false, .int .i64 0, .int .i64 0, .int .i64 0]), 4, 32) := by kernel_rfl
theorem make_run (w : World) (n : Nat) (hn : n ≤ 1024) :
    ∃ w', (Instr.makeSlice 115 (.int .i64 (n : Int)) (.int .i64 (n : Int))).run Try.prog w = .ok (.slice (some ⟨w.heap.size, 0, none⟩) n n) w' ∧ (∀ (i : Nat) (p : Nd), (List.replicate n nd0)[i]? = some p → Pn w' w.heap.size (i * 4) p) ∧ (∀ j, w'.frozen? ⟨w.heap.size, j, none⟩ = false) ∧ w.heap.size < w'.heap.size ∧ Below w.heap.size w w' := by
  obtain ⟨i, hi, hz0, hz1, hz2⟩ := info_parts info132
  obtain ⟨w', hr, ho, hg⟩ := run_make_full (P := Try.prog) w w.heap.size 115 132 i _ 4 Try.underlying115 hi hz0 hz1 .i64 .i64 n (by rw [hz2]; omega) (by unfold maxLen; omega) (Nat.le_refl _)
  have hcell : ∀ j c u, j < n → c < 4 → (#[.bool false, .int .i64 0, .int .i64 0, .int .i64 0] : Array Value)[c]! = u → w'.cell? ⟨w.heap.size, j * 4 + c, none⟩ = some u := by
    intro j c u hj hc hu
    have hm : (j * 4 + c) % 4 = c := by omega
    have := ho.cells (g := w.heap.size) rfl (j * 4 + c) u (by
      rw [Array.getElem?_toList]
      simp only [madeCells, Value.cells, Array.getElem?_map, Array.getElem?_range]
      rw [if_pos (by omega)]
      simp only [Option.map_some, Option.some.injEq, Array.size, List.length, hm]
      exact hu)
    rw [addr_add0] at this
    exact this
  refine ⟨w', hr, fun j p hp => ?_, fun j => ?_, ?_, (Below.refl _ _).grown hg (Nat.le_refl _) (fun k hk => by cases hk)⟩
  · rw [List.getElem?_replicate] at hp
    split at hp
    · next hj =>
      have := (Option.some.inj hp).symm
      subst this
      exact ⟨hcell j 0 _ hj (by omega) rfl, hcell j 1 _ hj (by omega) rfl, hcell j 2 _ hj (by omega) rfl, hcell j 3 _ hj (by omega) rfl⟩
    · cases hp
  · rcases ho.2 with ⟨h0, _⟩ | ⟨g, c, cur, hv, _, hh, hc, _⟩
    · simp at h0
    · simp only [Value.slice.injEq, Option.some.injEq, Addr.mk.injEq] at hv
      obtain ⟨⟨rfl, _⟩, _, rfl⟩ := hv
      simp [World.frozen?, hh]
  · exact (own_block ho _ rfl).2
/-- Behind New. -/
def Fresh (w : World) (m : Nat) (e : Ending) (w' : World) : Prop :=
  ∃ g gb : Nat, e = .returned (.tuple #[.pointer (some ⟨g, 0, none⟩), .int .i64 0]) ∧ Ki w' g gb m [] ∧ w.heap.size ≤ g ∧ w.heap.size ≤ gb ∧ Below w.heap.size w w'
set_option maxRecDepth 100000 in
set_option maxHeartbeats 1000000 in
theorem new_ok (w : World) (m : Nat) (h1 : m ≤ 1024) : Calls Try.prog 38 #[.int .i64 (m : Int)] w (Fresh w m) := by
  have hk1 : ¬ (m : Int) < 0 := by omega
  have hk2 : ¬ (1024 : Int) < (m : Int) := by omega
  obtain ⟨w2, hr, hA, hF, hsz, hb⟩ := make_run w m h1
  have HA := hid hA
  have HFr := hid hF
  have HB := hid hb
  clear hA hF hb
  go_enter Try.func38, Try.ntmps38
  go_wp2
  refine bodyPost_ret (v := .tuple #[.pointer (some ⟨w2.heap.size, 0, none⟩), .int .i64 0]) (by simp [results, Try.results38, go_sem]) rfl ⟨w2.heap.size, w.heap.size, rfl, ?_, HB.out.size, Nat.le_refl _, HB.out.alloc HB.out.size _⟩
  have hsh : But (fun _ => False) w2 (w2.alloc (Obj.cells #[.slice (some ⟨w.heap.size, 0, none⟩) m m] 117)) := But.of (below1 _ _)
  refine ⟨List.replicate m nd0, ⟨by simp [go_sem], fun j => ?_, fun i p hp => (HA.out i p hp).but hsh (fun h => h), by omega, by simp; omega, by simp, h1⟩, Rep.init m⟩
  rw [World.frozen?_of_block (w := w2) (hsh.block w.heap.size hsz (fun h => h))]
  exact HFr.out j
end Go.Proofs.Ytciidjhadijhdaa
