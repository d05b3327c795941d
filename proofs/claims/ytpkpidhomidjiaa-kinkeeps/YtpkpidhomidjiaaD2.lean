import Derived.Test.YtpkpidhomidjiaaD1
namespace Go.Proofs.Ytpkpidhomidjiaa
open Go.RowKit
set_option linter.unusedVariables false

theorem numbers_same (a b : Option Addr) (n m ca cb : Nat) (A : List Int) (w : World) (hA : Row w a n ca (ints A)) (hB : Row w b m cb (ints A)) (hn : n < 9223372036854775807) :
    Calls Try.prog 16 #[.slice a n ca, .slice b m cb] w fun e w' => e = .returned (.bool true) ∧ ∃ k, w' = w.drewN k := by
  refine (numbers_any a b n m ca cb A A w hA hB hn).mono ?_
  rintro e w' ⟨rfl, h⟩
  exact ⟨ret_bool (by simp), h⟩
theorem out_range {m : Nat} {l : Fo} (h : Ok m l) {n : Int} (hn : n < 0 ∨ (m : Int) ≤ n) : n ∉ nums l := fun hk => by
  have := h.range n hk
  omega
theorem r_bad {w : World} {g gb m : Nat} {l : Fo} (h : Ki w g gb m l) (n : Int) (hn : n < 0 ∨ (m : Int) ≤ n) :
    Calls Try.prog 20 #[.pointer (some ⟨g, 0, none⟩), .int .i64 n] w fun e w' => e = .returned (.int .i64 20) ∧ w' = w := by
  have := root_no h n (.inl hn)
  rw [show rootE m l n = 20 by unfold rootE; rw [if_neg (by omega)]] at this
  exact this
theorem c_bad {w : World} {g gb m : Nat} {l : Fo} (h : Ki w g gb m l) (n : Int) (hn : n < 0 ∨ (m : Int) ≤ n) :
    Calls Try.prog 22 #[.pointer (some ⟨g, 0, none⟩), .int .i64 n] w fun e w' => e = .returned (.int .i64 20) ∧ w' = w := by
  have := cut_no h n (.inl (out_range h.ok hn))
  rw [show cutE l n = 20 by unfold cutE; rw [if_neg (out_range h.ok hn)]] at this
  exact this
/-- A child that is made and cut again. -/
structure Twig (m : Nat) (l : Fo) (k f : Int) : Prop where
  ok : Ok m l
  k : k ∈ nums l
  f0 : 0 ≤ f
  f1 : f < m
  f : f ∉ nums l
theorem Twig.ne {m : Nat} {l : Fo} {k f : Int} (h : Twig m l k f) : k ≠ f := fun e => h.f (by rw [← e]; exact h.k)
theorem Twig.kids {m : Nat} {l : Fo} {k f : Int} (h : Twig m l k f) : kids (l ++ [(f, k)]) k = kids l k ++ [f] := by
  have := h.ok.range k h.k
  unfold Go.Proofs.Ytpkpidhomidjiaa.kids
  rw [if_pos this.1, if_pos this.1, ch_app, if_pos rfl]
theorem Twig.childl {m : Nat} {l : Fo} {k f : Int} (h : Twig m l k f) : (f : Int) ∈ nums (l ++ [(f, k)]) ∧ k ∈ nums (l ++ [(f, k)]) := by
  rw [nums_app]
  exact ⟨by simp, by simp [h.k]⟩
theorem Twig.child {m : Nat} {l : Fo} {k f : Int} (h : Twig m l k f) {w : World} {g gb : Nat} (hK : Ki w g gb m l) : Calls Try.prog 21 #[.pointer (some ⟨g, 0, none⟩), .int .i64 k, .int .i64 f] w (Did w g gb m 0 (l ++ [(f, k)])) := by
  have := child_any hK k f
  rw [show childE m l k f = 0 by unfold childE rootE; rw [if_pos h.k, if_pos ⟨h.f0, h.f1⟩, if_neg h.f], show childL m l k f = l ++ [(f, k)] by unfold childL; rw [if_pos ⟨h.k, ⟨h.f0, h.f1⟩, h.f⟩]] at this
  exact this
theorem Twig.root {m : Nat} {l : Fo} {k f : Int} (h : Twig m l k f) {w : World} {g gb : Nat} (hK : Ki w g gb m (l ++ [(f, k)])) : Calls Try.prog 20 #[.pointer (some ⟨g, 0, none⟩), .int .i64 f] w fun e w' => e = .returned (.int .i64 19) ∧ w' = w := by
  have := root_no hK f (.inr h.childl.1)
  rw [show rootE m (l ++ [(f, k)]) f = 19 by unfold rootE; rw [if_pos ⟨h.f0, h.f1⟩, if_pos h.childl.1]] at this
  exact this
theorem Twig.child2 {m : Nat} {l : Fo} {k f : Int} (h : Twig m l k f) {w : World} {g gb : Nat} (hK : Ki w g gb m (l ++ [(f, k)])) : Calls Try.prog 21 #[.pointer (some ⟨g, 0, none⟩), .int .i64 k, .int .i64 f] w fun e w' => e = .returned (.int .i64 19) ∧ w' = w := by
  have := child_no hK k f (.inr (.inr h.childl.1))
  rw [show childE m (l ++ [(f, k)]) k f = 19 by unfold childE rootE; rw [if_pos h.childl.2, if_pos ⟨h.f0, h.f1⟩, if_pos h.childl.1]] at this
  exact this
theorem Twig.cutk {m : Nat} {l : Fo} {k f : Int} (h : Twig m l k f) {w : World} {g gb : Nat} (hK : Ki w g gb m (l ++ [(f, k)])) : Calls Try.prog 22 #[.pointer (some ⟨g, 0, none⟩), .int .i64 k] w fun e w' => e = .returned (.int .i64 19) ∧ w' = w := by
  have hne : ch (l ++ [(f, k)]) k ≠ [] := by rw [ch_app, if_pos rfl]; simp
  have := cut_no hK k (.inr hne)
  rw [show cutE (l ++ [(f, k)]) k = 19 by unfold cutE; rw [if_pos h.childl.2, if_neg hne]] at this
  exact this
theorem Twig.cutf {m : Nat} {l : Fo} {k f : Int} (h : Twig m l k f) {w : World} {g gb : Nat} (hK : Ki w g gb m (l ++ [(f, k)])) : Calls Try.prog 22 #[.pointer (some ⟨g, 0, none⟩), .int .i64 f] w (Did w g gb m 0 l) := by
  have hne : ch (l ++ [(f, k)]) f = [] := by rw [ch_app, if_neg h.ne, h.ok.none h.f0 h.f]; rfl
  have := cut_any hK f
  rw [show cutE (l ++ [(f, k)]) f = 0 by unfold cutE; rw [if_pos h.childl.1, if_pos hne], show cutL (l ++ [(f, k)]) f = l by unfold cutL; rw [if_pos ⟨h.childl.1, hne⟩, cut_last h.f]] at this
  exact this
theorem child_none {w : World} {g gb m : Nat} {l : Fo} (h : Ki w g gb m l) (p n : Int) (hp : p ∉ nums l) :
    Calls Try.prog 21 #[.pointer (some ⟨g, 0, none⟩), .int .i64 p, .int .i64 n] w fun e w' => e = .returned (.int .i64 20) ∧ w' = w := by
  have := child_no h p n (.inl hp)
  rw [show childE m l p n = 20 by unfold childE; rw [if_neg hp]] at this
  exact this
/-- A list in memory of its own, behind the forest's. -/
def Lst (W : World) (gb : Nat) (a : Option Addr) (n cap : Nat) (A : List Int) : Prop := Own W (gb + 1) 3 a n cap (ints A) ∧ n ≤ 2000
theorem Lst.but {W W' : World} {gb : Nat} {a : Option Addr} {n cap : Nat} {A : List Int} (h : Lst W gb a n cap A) (hb : But (· = gb) W W') : Lst W' gb a n cap A :=
  ⟨h.1.but hb (fun k hk e => by have := h.1.blk k hk; omega), h.2⟩
theorem Lst.later {W W' : World} {gb : Nat} {a : Option Addr} {n cap : Nat} {A : List Int} (h : Lst W gb a n cap A) (hb : Below W.heap.size W W') : Lst W' gb a n cap A := ⟨h.1.later hb, h.2⟩
theorem Ki.lt {w : World} {g gb m : Nat} {l : Fo} (h : Ki w g gb m l) : gb < w.heap.size := by
  obtain ⟨N, h1, _⟩ := h
  exact h1.lt2
theorem Ki.big {w : World} {g gb m : Nat} {l : Fo} (h : Ki w g gb m l) : m ≤ 1024 := by
  obtain ⟨N, h1, _⟩ := h
  exact h1.big
theorem children_lst {w : World} {g gb m : Nat} {l : Fo} (h : Ki w g gb m l) (n : Int) :
    Calls Try.prog 12 #[.pointer (some ⟨g, 0, none⟩), .int .i64 n] w fun e w' => ∃ a k cap, e = .returned (.slice a k cap) ∧ Lst w' gb a k cap (kids l n) ∧ Below w.heap.size w w' := by
  refine (children_any h n).mono ?_
  rintro e w' ⟨a, k, cap, rfl, hO, hB⟩
  have hl := hO.len
  rw [ints_length] at hl
  have h1 := kids_len h.ok n
  have h2 := h.big
  exact ⟨a, k, cap, rfl, ⟨hO.mono h.lt, by omega⟩, hB⟩
end Go.Proofs.Ytpkpidhomidjiaa
