import Derived.Test.YtffmodpgddecnaaZ01
import Derived.Deep.DeepCutAuto
import Derived.BigQuiet
import Derived.Test.YtffmodpgddecnaaZ00
import Derived.Test.YtffmodpgddecnaaRows
import Derived.WalkKit
import Derived.WalkSpells
import Derived.WalkLawsBesides
import Derived.WalkMore
import Derived.Deep.RegionHeld3
import Derived.Deep.MidRow
import Derived.Deep.QuietTactic
import Derived.Maps.AppendAt
import Derived.Laws.AppendOwnNone
import Derived.Laws.OwnMore
import Derived.Laws.CopyRow
import Derived.Laws.IdiomCopy
import Derived.Laws.BitsAllLaws
import Derived.Laws.ShiftsVarLaws
import Derived.Deep.LoopGhost
import Derived.Shelf.Slices.SearchI
import Derived.Shelf.Slices.Clone
import Derived.Shelf.Slices.Delete
import Derived.Sort.OwnSortedInts
import Derived.Stop.BytesEq
import Derived.Lib.SliceRun
namespace Go.Proofs.Ytffmodpgddecnaa.D
open Go.Proofs.Ytffmodpgddecnaa.H (B64)
open Go.RowKit
set_option linter.unusedVariables false
theorem low_any (h : Nat) (n : Int) (w : World) (hh : h < B64) (h0 : 0 ≤ n) (h1 : n ≤ 63) :
    Calls Try.prog 81 #[.int .u64 (h : Int), .int .i64 n] w fun e w' => e = .returned (.int .u64 ((h % 2 ^ n.toNat : Nat) : Int)) ∧ w' = w := by
  have hl := u64_low h n.toNat hh (by omega)
  have HL : Hid (bits .and .u64 (h : Int) (IntKind.u64.wrap (IntKind.u64.wrap (2 ^ n.toNat) - 1)) = ((h % 2 ^ n.toNat : Nat) : Int)) := hl
  clear hl
  go_enter Try.func81, Try.ntmps81
  go_wp2
  go_ret
  exact ⟨ret_int HL.out, rfl⟩
set_option maxHeartbeats 400000 in
theorem cut_any (a b : Int) (N : Nat) (width : Int) (w : World) (h : IsV a b N) :
    Calls Try.prog 70 #[.agg #[.int .u64 a, .int .u64 b], .int .i64 width] w fun e w' => ∃ c d : Int, e = .returned (.agg #[.int .u64 c, .int .u64 d]) ∧ IsV c d (cutN N width) ∧ Below w.heap.size w w' := by
  obtain ⟨a, b, rfl, rfl, h⟩ := h
  by_cases h1 : width < 1
  · have hz : cutN N width = 0 := cut_none h1
    rw [hz]; clear hz
    go_enter Try.func70, Try.ntmps70
    go_wp2
    exact bodyPost_ret (v := .agg #[.int .u64 0, .int .u64 0]) (by simp [results, Try.results70, go_sem]) rfl ⟨0, 0, rfl, IsV.zero, below2 _ _ _⟩
  · by_cases h2 : 128 ≤ width
    · have hz := IsV.of (cut_all h h2)
      clear h
      go_enter Try.func70, Try.ntmps70
      go_wp2
      exact bodyPost_ret (v := .agg #[.int .u64 a, .int .u64 b]) (by simp [results, Try.results70, go_sem]) rfl ⟨a, b, rfl, hz, below2 _ _ _⟩
    · by_cases h3 : 64 ≤ width
      · have hz := IsV.of (cut_hi h h3 (by omega))
        have hh := h.ha
        have hw : IntKind.i64.wrap (width - 64) = width - 64 := by rw [IntKind.wrap_i64]; omega
        clear h
        go_enter Try.func70, Try.ntmps70
        go_wp2
        go_region_with (first | (go_at_call 81; refine (low_any _ _ _ hh (by omega) (by omega)).mono ?_; rintro e w' ⟨rfl, rfl⟩))
        all_goals go_wp2
        all_goals exact bodyPost_ret (v := .agg #[.int .u64 ((a % 2 ^ (width - 64).toNat : Nat) : Int), .int .u64 b]) (by simp [results, Try.results70, go_sem]) rfl ⟨_, b, rfl, hz, (below2 _ _ _).drew⟩
      · have hz := IsV.of (cut_lo (width := width) h (by omega) (by omega))
        have hh := h.hb
        have h4 : width ≤ 63 := by omega
        clear h
        go_enter Try.func70, Try.ntmps70
        go_wp2_with (first | (go_at_call 81; refine (low_any b width _ hh (by omega) h4).mono ?_; rintro e w' ⟨rfl, rfl⟩))
        exact bodyPost_ret (v := .agg #[.int .u64 0, .int .u64 ((b % 2 ^ width.toNat : Nat) : Int)]) (by simp [results, Try.results70, go_sem]) rfl ⟨0, _, rfl, hz, (below2 _ _ _)⟩
theorem addr_ne {b o b' o' : Nat} (h : b ≠ b' ∨ o ≠ o') : (⟨b, o, none⟩ : Addr) ≠ ⟨b', o', none⟩ := by
  intro e
  simp only [Addr.mk.injEq, and_true] at e
  omega
end Go.Proofs.Ytffmodpgddecnaa.D
namespace Go.Proofs.Ytffmodpgddecnaa.D
open Go.Proofs.Ytffmodpgddecnaa.H (B64)
open Go.RowKit
set_option linter.unusedVariables false
structure Dr (w : World) (g gb n : Nat) (c : Nat → Nat) (t : Nat) : Prop where
  all : w.cell? ⟨g, 0, none⟩ = some (.slice (some ⟨gb, 0, none⟩) n n)
  tk : Lies w ⟨g, 1, none⟩ (.int .i64 (t : Int))
  ar : ∀ i, i < n → Wd w gb (i * 2) (c i)
  ne : g ≠ gb
  le : t ≤ n
  big : n ≤ 4096
theorem Dr.but {S : Nat → Prop} {w w' : World} {g gb n : Nat} {c : Nat → Nat} {t : Nat} (hb : But S w w') (h : Dr w g gb n c t) (h1 : ¬ S g) (h2 : ¬ S gb) : Dr w' g gb n c t :=
  ⟨cell_but hb h.all h1, h.tk.but hb h1, fun i hi => (h.ar i hi).but hb h2, h.ne, h.le, h.big⟩
theorem Dr.later {w w' : World} {g gb n : Nat} {c : Nat → Nat} {t : Nat} (hb : Below w.heap.size w w') (h : Dr w g gb n c t) : Dr w' g gb n c t := h.but (S := fun _ => False) (But.of hb) (fun h => h) (fun h => h)
theorem Dr.alloc {w : World} {g gb n : Nat} {c : Nat → Nat} {t : Nat} (h : Dr w g gb n c t) (o : Obj) : Dr (w.alloc o) g gb n c t := h.later (below1 _ _)
theorem Dr.drew {w : World} {g gb n : Nat} {c : Nat → Nat} {t : Nat} (h : Dr w g gb n c t) : Dr w.drew g gb n c t := h.later (Below.refl _ _).drew
theorem Dr.lt {w : World} {g gb n : Nat} {c : Nat → Nat} {t : Nat} (h : Dr w g gb n c t) : g < w.heap.size := World.block_lt_of_cell? _ _ h.all
theorem Dr.put {w : World} {g gb n : Nat} {c : Nat → Nat} {t : Nat} (h : Dr w g gb n c t) {t' : Nat} (ht : t' ≤ n) : Dr (w.setCell ⟨g, 1, none⟩ (.int .i64 (t' : Int))) g gb n c t' :=
  ⟨cell_set_ne h.all (by omega), h.tk.put, fun i hi => by
    obtain ⟨h1, h2⟩ := h.ar i hi
    have hne := h.ne
    exact ⟨by rw [World.cell?_setCell_other _ _ _ _ (addr_ne (.inl hne))]; exact h1, by rw [World.cell?_setCell_other _ _ _ _ (addr_ne (.inl hne))]; exact h2⟩, h.ne, ht, h.big⟩
end Go.Proofs.Ytffmodpgddecnaa.D
namespace Go.Proofs.Ytffmodpgddecnaa.D
open Go.Proofs.Ytffmodpgddecnaa.H (B64)
open Go.RowKit
set_option linter.unusedVariables false
theorem _root_.Go.Proofs.Ytffmodpgddecnaa.But.own {a w : World} {g : Nat} (h : But (· = g) a w) (o : Nat) (u : Value) : But (· = g) a (w.setCell ⟨g, o, none⟩ u) := h.setCell (p := ⟨g, o, none⟩) (show g = g from rfl) u
end Go.Proofs.Ytffmodpgddecnaa.D
namespace Go.Proofs.Ytffmodpgddecnaa.D
open Go.Proofs.Ytffmodpgddecnaa.H (B64)
open Go.RowKit
set_option linter.unusedVariables false
end Go.Proofs.Ytffmodpgddecnaa.D
namespace Go.Proofs.Ytffmodpgddecnaa.D
open Go.Proofs.Ytffmodpgddecnaa.H (B64)
open Go.RowKit
set_option linter.unusedVariables false
end Go.Proofs.Ytffmodpgddecnaa.D
namespace Go.Proofs.Ytffmodpgddecnaa.D
open Go.Proofs.Ytffmodpgddecnaa.H (B64)
open Go.RowKit
set_option linter.unusedVariables false
end Go.Proofs.Ytffmodpgddecnaa.D
namespace Go.Proofs.Ytffmodpgddecnaa.D
open Go.Proofs.Ytffmodpgddecnaa.H (B64)
open Go.RowKit
set_option linter.unusedVariables false
end Go.Proofs.Ytffmodpgddecnaa.D
namespace Go.Proofs.Ytffmodpgddecnaa.D
open Go.Proofs.Ytffmodpgddecnaa.H (B64)
open Go.RowKit
set_option linter.unusedVariables false
end Go.Proofs.Ytffmodpgddecnaa.D
namespace Go.Proofs.Ytffmodpgddecnaa.D
open Go.RowKit
open Go.Proofs.Ytffmodpgddecnaa.H (B64)
set_option linter.unusedVariables false
def drawR (P : Nat → Bool) (c : Nat → Nat) (n : Nat) : Nat → Nat → Nat × Int × Nat
  | 0, t => (0, 12, t)
  | k + 1, t => if t < n then (if P (c t) = true then drawR P c n k (t + 1) else (c t, 0, t + 1)) else (0, 11, t)
end Go.Proofs.Ytffmodpgddecnaa.D
namespace Go.Proofs.Ytffmodpgddecnaa.D
open Go.RowKit
open Go.Proofs.Ytffmodpgddecnaa.H (B64)
set_option linter.unusedVariables false
theorem Dr.butN {S : Nat → Prop} {w w' : World} {g gb n : Nat} {c : Nat → Nat} {t : Nat} (hb : But S w w') (h : Dr w g gb n c t) (h1 : ¬ S g) (h2 : 0 < n → ¬ S gb) : Dr w' g gb n c t :=
  ⟨cell_but hb h.all h1, h.tk.but hb h1, fun i hi => (h.ar i hi).but hb (h2 (by omega)), h.ne, h.le, h.big⟩
theorem Dr.lt2 {w : World} {g gb n : Nat} {c : Nat → Nat} {t : Nat} (h : Dr w g gb n c t) (h0 : 0 < n) : gb < w.heap.size := World.block_lt_of_cell? _ _ (h.ar 0 h0).1
theorem Ws.butN {S : Nat → Prop} {w w' : World} {a : Option Addr} {n cap : Nat} {f : Nat → Nat} (h : Ws w a n cap f) (hb : But S w w') (hn : 0 < n → ∀ x, a = some x → ¬ S x.block) : Ws w' a n cap f :=
  ⟨h.cap_, h.none_, fun x hx j u hu => cell_but hb (h.cells x hx j u hu) (by
    rw [add_block]
    refine hn ?_ x hx
    have := (List.getElem?_eq_some_iff.1 hu).1
    rw [wvs_length] at this
    omega), h.small⟩
end Go.Proofs.Ytffmodpgddecnaa.D
namespace Go.Proofs.Ytffmodpgddecnaa
open Go.RowKit Go.Shelf H
set_option linter.unusedVariables false
theorem Ow.form {w : World} {base : Nat} {e : TypeId} {k : Nat} {a : Option Addr} {n cap : Nat} {L : List Value} (h : Ow w base e k a n cap L) : (a = none ∧ n = 0 ∧ cap = 0) ∨ ∃ g, a = some ⟨g, 0, none⟩ ∧ (∀ j, w.frozen? ⟨g, j, none⟩ = false) ∧ n ≤ cap := by
  rcases h.2 with ⟨h1, h2⟩ | ⟨g, c, cur, hv, _, hh, hc, _⟩
  · simp only [Value.slice.injEq] at h1
    exact .inl ⟨h1.1, h2, h1.2.2⟩
  · simp only [Value.slice.injEq] at hv
    obtain ⟨rfl, _, rfl⟩ := hv
    exact .inr ⟨g, rfl, fun j => by simp [World.frozen?, hh], hc⟩
theorem Ow.set1 {w : World} {base : Nat} {e : TypeId} {k g n cap : Nat} {L : List Value} (h : Ow w base e k (some ⟨g, 0, none⟩) n cap L) (j : Nat) (u : Value) : Ow (w.setCell ⟨g, j, none⟩ u) base e k (some ⟨g, 0, none⟩) n cap (L.set j u) := (World.ownsRow.stored h j u).1
def Rv (w : World) (a : Option Addr) (L : List Value) : Prop := ∀ g, a = some ⟨g, 0, none⟩ → ∀ j u, L[j]? = some u → w.cell? ⟨g, j, none⟩ = some u
theorem Rv.but {S : Nat → Prop} {w w' : World} {a : Option Addr} {L : List Value} (h : Rv w a L) (hb : But S w w') (hn : ∀ j, Blk a j → ¬ S j) : Rv w' a L := fun g e j u hu => cell_but hb (h g e j u hu) (hn g ⟨_, e, rfl⟩)
theorem Rv.later {w w' : World} {a : Option Addr} {L : List Value} (h : Rv w a L) (hb : Below w.heap.size w w') : Rv w' a L := h.but (S := fun _ => False) (But.of hb) (fun _ _ h => h)
theorem Ow.rv {w : World} {base : Nat} {e : TypeId} {k : Nat} {a : Option Addr} {n cap : Nat} {L : List Value} (h : Ow w base e k a n cap L) : Rv w a L := fun g e j u hu => by
  by_cases hn : 0 < n
  · obtain ⟨b, hb, hc⟩ := h.at_ hn
    rw [hb] at e
    cases e
    exact hc j u hu
  · have hl := h.1
    have h0 : n = 0 := by omega
    rw [h0, Nat.zero_mul] at hl
    rw [List.eq_nil_of_length_eq_zero hl] at hu
    cases hu
theorem Rv.pre {w : World} {a : Option Addr} {L T : List Value} (h : Rv w a (L ++ T)) : Rv w a L := fun g e j u hu => h g e j u (by rw [List.getElem?_append_left (List.getElem?_eq_some_iff.1 hu).1]; exact hu)
set_option maxRecDepth 10000 in
theorem append_keep (t e : TypeId) (z : Value) (k by_ : Nat) (ht : Try.prog.underlying t = some (.slice e)) (hinf : (Try.prog.info? e).map (fun i => (i.zero, i.size, i.bytes)) = some (some z, k, by_)) (hzs : z.cells.size = k) (hk : 0 < k) (hby : 0 < by_)
    {w : World} {base : Nat} {a : Option Addr} {n cap : Nat} {L : List Value} {x : Addr} {m c : Nat} {M : List Value} (h : Ow w base e k a n cap L) (r : Cr w k (some x) m c M) (hm : 0 < m) (hb : base ≤ w.heap.size) (hr : (n + m) * by_ ≤ 140737488355328) :
    ∃ a' cap' w', (Builtin.append_ #[t, t] t #[.slice a n cap, .slice (some x) m c]).run Try.prog w = .ok (.slice a' (n + m) cap') w' ∧ Ow w' base e k a' (n + m) cap' (L ++ M) ∧ Gr a a' w w' ∧ ((a' = a ∧ cap' = cap) ∨ (Below w.heap.size w w' ∧ ∀ j, Blk a' j → w.heap.size ≤ j)) := by
  have hnm : n + m ≤ 140737488355328 := Nat.le_trans (Nat.le_mul_of_pos_right _ hby) hr
  rcases h.form with ⟨rfl, rfl, rfl⟩ | ⟨g, rfl, _, hnc⟩
  · obtain ⟨a', cap', w', hrun, hO, hG⟩ := append_k t e z k by_ ht hinf hzs hk hby h r hb hr
    refine ⟨a', cap', w', hrun, hO, hG, .inr ⟨⟨hG.but.os, hG.but.tape, hG.but.output, hG.but.size, fun j hj => hG.but.block j hj (fun e => by obtain ⟨_, e, _⟩ := e; cases e)⟩, fun j hj => ?_⟩⟩
    rcases hG.on j hj with e | e
    · obtain ⟨_, e, _⟩ := e; cases e
    · exact e
  · obtain ⟨i, hi, hz0, hz1, hz2⟩ := info_parts hinf
    by_cases hfit : n + m ≤ cap
    · obtain ⟨w', hrun, hO, hg⟩ := run_append_fits (P := Try.prog) w base t t e i k ht hi hz1 g n cap _ h x m c M r.len (r.cells x rfl) r.one hfit
      exact ⟨_, cap, w', hrun, hO, ⟨⟨hg.os, hg.tape, hg.output, hg.size, fun j hj hn => hg.block j hj (fun e => hn ⟨_, rfl, by simpa using e.symm⟩)⟩, fun j hj => .inl hj⟩, .inl ⟨rfl, rfl⟩⟩
    · have hl : L.length = n * k := h.1
      have hlm := r.len
      have hrun := run_append_grow (P := Try.prog) w t t e i _ ht hi hz0 ⟨g, 0, none⟩ n cap L (by rw [hz1]; exact hl) (fun j u hu => by rw [addr_add0]; exact h.rv g rfl j u hu) x m c M (by rw [hz1]; exact hlm) (r.cells x rfl) (by omega) (by omega) (growslice_fits (by omega) (by rw [hz2]; omega))
      have hB : Below w.heap.size w (w.drew.alloc (.cells (L.toArray ++ M.toArray ++ Builtin.zeroCells z.cells (grownCap w (n + m) cap e - (n + m))) e)) := ((Below.refl _ _).drew).alloc (by simp) _
      have hge : ∀ j, Blk (some ⟨w.heap.size, 0, none⟩) j → w.heap.size ≤ j := fun j hj => by
        obtain ⟨y, ey, rfl⟩ := hj
        cases ey
        exact Nat.le_refl _
      have hgc := grownCap_ge w (n + m) cap e
      refine ⟨_, _, _, hrun, ⟨by rw [List.length_append, hl, hlm, Nat.add_mul], .inr ⟨w.heap.size, _, _, rfl, hb, heap_alloc_new w.drew _, hgc, grownCap_le_maxLen _ _ _ _ (by unfold maxLen; omega), ?_, ?_⟩⟩, ⟨But.of hB, fun j hj => .inr (hge j hj)⟩, .inr ⟨hB, hge⟩⟩
      · simp only [Array.size_append, List.size_toArray, size_zeroCells, hl, hlm, hzs]
        rw [← Nat.add_mul, ← Nat.add_mul, Nat.add_sub_of_le hgc]
      · rw [Array.toList_append, Array.toList_append]
        exact List.take_left' (by simp [hl, hlm, Nat.add_mul])
structure Lz (w0 w : World) (base : Nat) (e : TypeId) (k : Nat) (a0 : Option Addr) (c0 : Nat) (L0 : List Value) (b : Option Addr) (c n : Nat) (L : List Value) : Prop where
  ow : Ow w base e k b n c L
  sh : (b = a0 ∧ c = c0) ∨ ∀ j, Blk b j → w0.heap.size ≤ j
  rv : Rv w a0 L0
  pre : ∃ T, L = L0 ++ T
  gr : Gr a0 b w0 w
  lt : ∀ j, Blk a0 j → j < w0.heap.size
end Go.Proofs.Ytffmodpgddecnaa
namespace Go.Proofs.Ytffmodpgddecnaa.D
open Go.RowKit
open Go.Proofs.Ytffmodpgddecnaa.H (B64)
set_option linter.unusedVariables false
def ofP (X : List Tk) (l : Fo) (o : Int) (N : Nat) : Bool := hasC X l (o, N / B64, N % B64)
theorem half_lt {N : Nat} (h : N < B64 * B64) : N / B64 < B64 ∧ N % B64 < B64 := ⟨Nat.div_lt_of_lt_mul h, Nat.mod_lt _ (by decide)⟩
end Go.Proofs.Ytffmodpgddecnaa.D
namespace Go.Proofs.Ytffmodpgddecnaa.D
open Go.RowKit
open Go.Proofs.Ytffmodpgddecnaa.H (B64 Cp)
set_option linter.unusedVariables false
structure Sta where
  X : List Tk
  l : Fo
  L : List Int
  t : Nat
structure Par where
  mo : Nat
  e : Int
  a : Int
  n : Nat
  c : Nat → Nat
structure Fit (P : Par) (s : Sta) : Prop where
  inv : Inv P.mo s.X s.l
  cnt : ∀ o, s.L.count o = inN s.X s.l o
  len : s.L.length = s.l.length
  top : P.a ≤ (P.mo : Int)
  le : s.t ≤ P.n
  cs : ∀ i, i < P.n → P.c i < B64 * B64
theorem inN_add {m : Nat} {X : List Tk} {l : Fo} (h : Inv m X l) {k : Nat} (p : Int) (c : Cp) (r : Int) (hk : k < m) (hn : (k : Int) ∉ nums l) (o : Int) :
    inN (X.set k (c, r)) (l ++ [((k : Int), p)]) o = inN X l o + if c.1 = o then 1 else 0 := by
  unfold inN
  rw [nums_app, List.filter_append, List.length_append]
  congr 1
  · congr 1
    refine List.filter_congr (fun x hx => ?_)
    unfold ob
    rw [tk_set_other _ (nums_nn h.ok hx) (fun e => hn (e ▸ hx))]
  · have hs : ob (X.set k (c, r)) (k : Int) = c.1 := by unfold ob; rw [tk_set_same _ (by rw [h.len]; exact hk)]
    by_cases e : c.1 = o
    · rw [if_pos e, List.filter_cons_of_pos (by simp [hs, e])]; rfl
    · rw [if_neg e, List.filter_cons_of_neg (by simp [hs, e])]; rfl
theorem hasO_inN {X : List Tk} {l : Fo} {o : Int} : hasO X l o = true ↔ 0 < inN X l o := by
  rw [hasO_iff]
  unfold inN
  rw [List.length_pos_iff_exists_mem]
  constructor
  · rintro ⟨n, hn, e⟩; exact ⟨n, List.mem_filter.2 ⟨hn, decide_eq_true e⟩⟩
  · rintro ⟨n, hn⟩; exact ⟨n, (List.mem_filter.1 hn).1, of_decide_eq_true (List.mem_filter.1 hn).2⟩
theorem Fit.room {P : Par} {s : Sta} (h : Fit P s) {o : Int} (hm : Q.may P.e P.a s.L o = 0) : s.l.length < P.mo := by
  have := (Q.may_zero hm).2
  have := h.len
  have := h.top
  omega
def cap (o : Int) (N : Nat) : Cp := (o, N / B64, N % B64)
structure Ans where
  c : Cp
  code : Int
  s : Sta
def no (s : Sta) (c : Int) : Ans := ⟨(0, 0, 0), c, s⟩
def addS (s : Sta) (o : Int) (N : Nat) (p r : Int) (t : Nat) : Sta := ⟨s.X.set (low s.l) (cap o N, r), s.l ++ [((low s.l : Int), p)], s.L ++ [o], t⟩
def tokR (P : Par) (s : Sta) (o : Int) (D : Nat × Int × Nat) (p r : Int) : Ans :=
  if Q.may P.e P.a s.L o ≠ 0 then no s (Q.may P.e P.a s.L o) else if D.2.1 ≠ 0 then no { s with t := D.2.2 } D.2.1 else ⟨cap o D.1, 0, addS s o D.1 p r D.2.2⟩
def drawD (P : Par) (t : Nat) : Nat × Int × Nat := if t < P.n then (P.c t, 0, t + 1) else (0, 11, t)
def childD (P : Par) (s : Sta) (o : Int) : Nat × Int × Nat := drawR (ofP s.X s.l o) P.c P.n 9 s.t
def rootA (P : Par) (s : Sta) (o : Int) : Ans := if 0 < inN s.X s.l o then no s 19 else tokR P s o (drawD P s.t) (-1) 31
def rgt (s : Sta) (c : Cp) : Int := rg s.X (findN s.X s.l c)
def childA (P : Par) (s : Sta) (c : Cp) (r : Int) : Ans :=
  if hasC s.X s.l c = false then no s 3 else if partB 4 (rgt s c) = false ∨ partB r (rgt s c) = false then no s 4 else tokR P s c.1 (childD P s c.1) (findN s.X s.l c) r
structure May (P : Par) (s : Sta) (c : Cp) (p r : Int) : Prop where
  new : hasC s.X s.l c = false
  wide : c.2.1 < B64 ∧ c.2.2 < B64
  val : validB r = true
  at_ : (p = -1 ∧ hasO s.X s.l c.1 = false) ∨ (p ∈ nums s.l ∧ ob s.X p = c.1 ∧ partB r (rg s.X p) = true)
theorem Fit.add {P : Par} {s : Sta} (h : Fit P s) {o : Int} {N : Nat} {p r : Int} {t : Nat} (hm : Q.may P.e P.a s.L o = 0) (hy : May P s (cap o N) p r) (ht : t ≤ P.n) : Fit P (addS s o N p r t) := by
  have hr := h.room hm
  have hlo := low_lt h.inv.ok hr
  refine ⟨h.inv.add hlo (low_not s.l) hy.new hy.wide hy.val hy.at_, fun x => ?_, by simp [addS, h.len], h.top, ht, h.cs⟩
  show (s.L ++ [o]).count x = inN (s.X.set (low s.l) (cap o N, r)) (s.l ++ [((low s.l : Int), p)]) x
  rw [inN_add h.inv p (cap o N) r hlo (low_not s.l) x, List.count_append, h.cnt x]
  congr 1
  rw [List.count_singleton]
  by_cases e : o = x
  · simp [cap, e]
  · simp [cap, e]
theorem Fit.took {P : Par} {s : Sta} (h : Fit P s) {t : Nat} (ht : t ≤ P.n) : Fit P { s with t := t } := ⟨h.inv, h.cnt, h.len, h.top, ht, h.cs⟩
theorem Fit.tok {P : Par} {s : Sta} (h : Fit P s) {o : Int} {D : Nat × Int × Nat} {p r : Int} (ht : D.2.2 ≤ P.n) (hy : Q.may P.e P.a s.L o = 0 → D.2.1 = 0 → May P s (cap o D.1) p r) : Fit P (tokR P s o D p r).s := by
  unfold tokR
  by_cases hm : Q.may P.e P.a s.L o = 0
  · rw [if_neg (by simp [hm])]
    by_cases hd : D.2.1 = 0
    · rw [if_neg (by simp [hd])]
      exact h.add hm (hy hm hd) ht
    · rw [if_pos hd]
      exact h.took ht
  · rw [if_pos hm]
    exact h
theorem drawD_le {P : Par} {t : Nat} (h : t ≤ P.n) : (drawD P t).2.2 ≤ P.n := by unfold drawD; split <;> simp <;> omega
theorem drawD_small {P : Par} {s : Sta} (h : Fit P s) (t : Nat) : (drawD P t).1 < B64 * B64 := by
  unfold drawD
  split
  · next ht => exact h.cs t ht
  · show (0 : Nat) < B64 * B64; decide
theorem rootMay {P : Par} {s : Sta} (h : Fit P s) {o : Int} (ho : ¬ 0 < inN s.X s.l o) {N : Nat} (hN : N < B64 * B64) : May P s (cap o N) (-1) 31 := by
  have hO : hasO s.X s.l o = false := by
    cases hc : hasO s.X s.l o with
    | false => rfl
    | true => exact absurd (hasO_inN.1 hc) ho
  refine ⟨?_, half_lt hN, by decide, .inl ⟨rfl, hO⟩⟩
  cases hc : hasC s.X s.l (cap o N) with
  | false => rfl
  | true => exact absurd (hasO_of_hasC hc) (by show ¬ hasO s.X s.l o = true; rw [hO]; decide)
theorem Fit.root {P : Par} {s : Sta} (h : Fit P s) (o : Int) : Fit P (rootA P s o).s := by
  unfold rootA
  by_cases ho : 0 < inN s.X s.l o
  · rw [if_pos ho]; exact h
  · rw [if_neg ho]
    exact h.tok (drawD_le h.le) (fun _ _ => rootMay h ho (drawD_small h s.t))
end Go.Proofs.Ytffmodpgddecnaa.D
namespace Go.Proofs.Ytffmodpgddecnaa.V
open Go.RowKit
open Go.Proofs.Ytffmodpgddecnaa.H (B64 Cp)
set_option linter.unusedVariables false
structure Sta where
  X : List Tk
  l : Fo
  L : List Int
  nx : Int
  V : List (Int × List Nat)
  t : Nat
  px : Int
  P : List Int
  ks : List Int
  D : Int → List Cp
structure Fit (mo : Nat) (s : Sta) : Prop where
  inv : Inv mo s.X s.l
  cnt : ∀ o, s.L.count o = inN s.X s.l o
  len : s.L.length = s.l.length
  obj : ∀ o, (∃ p ∈ s.V, p.1 = o) ↔ hasO s.X s.l o = true
  ids : ∀ p ∈ s.V, 1 ≤ p.1 ∧ p.1 < s.nx
open Go.Proofs.Ytffmodpgddecnaa.D (hasO_inN)
def noV (V : List (Int × List Nat)) (o : Int) : List (Int × List Nat) := V.filter (fun p => decide (p.1 ≠ o))
def felled (s : Sta) (m o : Int) : Sta := { s with X := zer s.X (G true s.l m), l := cuts s.l (G true s.l m), L := Q.subS s.L o ((G true s.l m).length : Int), V := if par s.l m = -1 then noV s.V o else s.V }
def topOf (X : List Tk) (l : Fo) (o : Int) : Int := (rootOf X l o).getD 0
structure Ans where
  K : List Cp
  code : Int
  s : Sta
def whom (all : Bool) (s : Sta) (c : Cp) : Int := if all then topOf s.X s.l c.1 else findN s.X s.l c
def needB (all : Bool) : Int := if all then 16 else 8
def revA (all : Bool) (s : Sta) (c : Cp) : Ans :=
  if hasC s.X s.l c = false then ⟨[], 3, s⟩ else if partB (needB all) (rg s.X (findN s.X s.l c)) = false then ⟨[], 4, s⟩ else
    ⟨(G true s.l (whom all s c)).map (fun k => (tk s.X k).1), 0, felled s (whom all s c) c.1⟩
end Go.Proofs.Ytffmodpgddecnaa.V
namespace Go.Proofs.Ytffmodpgddecnaa.K
open Go.RowKit
set_option linter.unusedVariables false
abbrev Cp := Int × Nat × Nat
def cEq (a b c d e f : Int) : Bool := decide (a = d ∧ b = e ∧ c = f)
theorem eqlC (a b c d e f : Int) (w : World) : (binOp .eql 40 (.agg #[.int .i64 a, .int .u64 b, .int .u64 c]) (.agg #[.int .i64 d, .int .u64 e, .int .u64 f])).run Try.prog w = .ok (.bool (cEq a b c d e f)) w := by
  unfold cEq
  by_cases h1 : a = d
  · subst h1
    by_cases h2 : b = e
    · subst h2
      by_cases h3 : c = f
      · subst h3; simp [go_sem]
      · simp [go_sem, h3]
    · simp [go_sem, h2]
  · simp [go_sem, h1]
end Go.Proofs.Ytffmodpgddecnaa.K
namespace Go.Proofs.Ytffmodpgddecnaa.K
open Go.RowKit
def B64 : Nat := 18446744073709551616
def KF : Nat := 11400714819323198485
def mulN (h : Nat) : Nat := h * KF % B64
def foldN (h : Nat) : Nat := h ^^^ (h / 2 ^ 29)
def stepN (h v : Nat) : Nat := foldN (mulN (h ^^^ v))
def hashN (o a b : Nat) : Nat := stepN (stepN (stepN 5903417616801668165 o) a) b
def lowN (h : Nat) (k : Int) : Nat := if k ≤ 0 then 0 else if 64 ≤ k then h else h % 2 ^ k.toNat
end Go.Proofs.Ytffmodpgddecnaa.K
namespace Go.Proofs.Ytffmodpgddecnaa.K
open Go.RowKit
def objN (o : Int) : Nat := (o % 18446744073709551616).toNat
end Go.Proofs.Ytffmodpgddecnaa.K
namespace Go.Proofs.Ytffmodpgddecnaa.K
open Go.RowKit
set_option linter.unusedVariables false
abbrev Pl := Bool × Cp × Int
def encP (p : Pl) : List Value := [.bool p.1, .int .i64 p.2.1.1, .int .u64 (p.2.1.2.1 : Int), .int .u64 (p.2.1.2.2 : Int), .int .i64 p.2.2]
def plc (P : List Pl) : List Value := P.flatMap encP
theorem plc_length (P : List Pl) : (plc P).length = P.length * 5 := by
  induction P with
  | nil => rfl
  | cons a r ih => simp only [plc, List.flatMap_cons, List.length_append] at ih ⊢; rw [ih]; simp [encP]; omega
def hasP (c : Cp) (p : Pl) : Bool := p.1 && decide (p.2.1 = c)
theorem cEq_iff (x c : Cp) : cEq x.1 (x.2.1 : Int) (x.2.2 : Int) c.1 (c.2.1 : Int) (c.2.2 : Int) = decide (x = c) := by
  unfold cEq
  by_cases h : x = c
  · subst h; simp
  · rw [decide_eq_false h]
    refine decide_eq_false fun hq => h ?_
    obtain ⟨q1, q2, q3⟩ := hq
    exact Prod.ext q1 (Prod.ext (Int.ofNat.inj q2) (Int.ofNat.inj q3))
theorem eqlCp (x c : Cp) (w : World) : (binOp .eql 40 (.agg #[.int .i64 x.1, .int .u64 (x.2.1 : Int), .int .u64 (x.2.2 : Int)]) (.agg #[.int .i64 c.1, .int .u64 (c.2.1 : Int), .int .u64 (c.2.2 : Int)])).run Try.prog w = .ok (.bool (decide (x = c))) w := by
  rw [eqlC, cEq_iff]
def spotP (P : List Pl) (c : Cp) (n : Nat) : Nat := min ((P.take n).findIdx (hasP c)) (n - 1)
theorem spot_at {P : List Pl} {c : Cp} {n i : Nat} {p : Pl} (hi : i < n) (hp : P[i]? = some p) (hh : hasP c p = true) (hn : ∀ j q, j < i → P[j]? = some q → hasP c q = false) : spotP P c n = i := by
  unfold spotP
  have hl : i < P.length := (List.getElem?_eq_some_iff.1 hp).1
  have e : (P.take n).findIdx (hasP c) = i := by
    rw [List.findIdx_eq (by rw [List.length_take]; omega)]
    refine ⟨?_, fun j hj => ?_⟩
    · rw [List.getElem_take]
      rw [List.getElem?_eq_getElem hl] at hp
      cases hp
      exact hh
    · have hj2 : j < P.length := by omega
      have := hn j _ hj (List.getElem?_eq_getElem hj2)
      rw [List.getElem_take, this]
  rw [e]
  omega
theorem spot_none {P : List Pl} {c : Cp} {n : Nat} (hn : ∀ j q, j < n → P[j]? = some q → hasP c q = false) (hl : n ≤ P.length) : spotP P c n = n - 1 := by
  unfold spotP
  have e : (P.take n).findIdx (hasP c) = (P.take n).length := by
    rw [List.findIdx_eq_length]
    intro x hx
    obtain ⟨j, hj, rfl⟩ := List.mem_iff_getElem.1 hx
    rw [List.length_take] at hj
    rw [List.getElem_take]
    exact hn j _ (by omega) (List.getElem?_eq_getElem (by omega))
  rw [e, List.length_take]
  omega
theorem range_but {S : Nat → Prop} {w w' : World} {b o : Nat} {cs : List Value} (h : w.rangeAt b o cs) (hb : But S w w') (hn : ¬ S b) : w'.rangeAt b o cs := fun j v hv => cell_but hb (h j v hv) hn
end Go.Proofs.Ytffmodpgddecnaa.K
namespace Go.Proofs.Ytffmodpgddecnaa.K
open Go.RowKit
set_option linter.unusedVariables false
def fr : Pl := (false, (0, 0, 0), 0)
theorem there_but {S : Nat → Prop} {w w' : World} {b o n : Nat} (h : w.there b o n) (hb : But S w w') (hn : ¬ S b) : w'.there b o n := fun j hj => by
  obtain ⟨h1, h2⟩ := h j hj
  obtain ⟨u, hu⟩ := Option.isSome_iff_exists.1 h1
  have := (Lies.but hb ⟨hu, h2⟩ hn)
  exact ⟨by rw [this.1]; rfl, this.2⟩
end Go.Proofs.Ytffmodpgddecnaa.K
namespace Go.Proofs.Ytffmodpgddecnaa.K
open Go.RowKit
set_option linter.unusedVariables false
structure Ca (w : World) (g s n k : Nat) (R : Nat → List Pl) (e hi mi : Int) : Prop where
  c0 : w.cell? ⟨g, 0, none⟩ = some (.int .i64 (s : Int))
  c1 : w.cell? ⟨g, 1, none⟩ = some (.int .i64 (n : Int))
  c2 : w.cell? ⟨g, 2, none⟩ = some (.int .i64 (k : Int))
  at_ : ∀ r, r < 16 → w.rangeAt g (3 + r * 20) (plc (R r))
  th : w.there g 3 320
  len : ∀ r, (R r).length = 4
  ce : Lies w ⟨g, 323, none⟩ (.int .i64 e)
  ch : Lies w ⟨g, 324, none⟩ (.int .i64 hi)
  cm : Lies w ⟨g, 325, none⟩ (.int .i64 mi)
  ls : s ≤ 16
  n1 : 1 ≤ n
  n4 : n ≤ 4
  lk : k ≤ 64
variable {w w' : World} {g s n k : Nat} {R : Nat → List Pl} {e hi mi : Int}
theorem Ca.lt (h : Ca w g s n k R e hi mi) : g < w.heap.size := World.block_lt_of_cell? _ _ h.c0
theorem Ca.but {S : Nat → Prop} (h : Ca w g s n k R e hi mi) (hb : But S w w') (h1 : ¬ S g) : Ca w' g s n k R e hi mi :=
  ⟨cell_but hb h.c0 h1, cell_but hb h.c1 h1, cell_but hb h.c2 h1, fun r hr => range_but (h.at_ r hr) hb h1, there_but h.th hb h1, h.len, h.ce.but hb h1, h.ch.but hb h1, h.cm.but hb h1, h.ls, h.n1, h.n4, h.lk⟩
theorem Ca.later (h : Ca w g s n k R e hi mi) (hb : Below w.heap.size w w') : Ca w' g s n k R e hi mi := h.but (S := fun _ => False) (But.of hb) (fun h => h)
def R0 : Nat → List Pl := fun _ => List.replicate 4 fr
end Go.Proofs.Ytffmodpgddecnaa.K
namespace Go.Proofs.Ytffmodpgddecnaa.K
open Go.RowKit
set_option linter.unusedVariables false
variable {w w' : World} {g s n k : Nat} {R : Nat → List Pl} {e hi mi : Int}
def rowN (k s : Nat) (c : Cp) : Nat := lowN (hashN (objN c.1) c.2.1 c.2.2) (k : Int) % s
end Go.Proofs.Ytffmodpgddecnaa.K
namespace Go.Proofs.Ytffmodpgddecnaa.K
open Go.RowKit
set_option linter.unusedVariables false
set_option linter.unusedSimpArgs false
variable {w w' : World} {g s n k : Nat} {R : Nat → List Pl} {e hi mi : Int}
def upd (R : Nat → List Pl) (r : Nat) (Q : List Pl) : Nat → List Pl := fun x => if x = r then Q else R x
def putR (s n k : Nat) (R : Nat → List Pl) (c : Cp) (m : Int) : Nat → List Pl :=
  if s = 0 then R else upd R (rowN k s c) ((true, c, m) :: (R (rowN k s c)).eraseIdx (spotP (R (rowN k s c)) c n))
theorem Ca.laid (h : Ca w g s n k R e hi mi) {r : Nat} (hr : r < 16) {Q : List Pl} (hQ : Q.length = 4) : Ca (w.setCells g (3 + r * 20) (plc Q)) g s n k (upd R r Q) e hi mi := by
  have hl : (plc Q).length = 20 := by rw [plc_length, hQ]
  have hn : ∀ j, j < 3 + r * 20 ∨ 3 + r * 20 + 20 ≤ j → (w.setCells g (3 + r * 20) (plc Q)).cell? ⟨g, j, none⟩ = w.cell? ⟨g, j, none⟩ := fun j hj => World.cell?_setCells_out g _ _ _ ⟨g, j, none⟩ (fun _ _ => by rw [hl]; exact hj)
  have hf : ∀ j, (w.setCells g (3 + r * 20) (plc Q)).frozen? ⟨g, j, none⟩ = w.frozen? ⟨g, j, none⟩ := fun j => World.frozen?_setCells _ _ _ _ _
  refine ⟨by rw [hn _ (by omega)]; exact h.c0, by rw [hn _ (by omega)]; exact h.c1, by rw [hn _ (by omega)]; exact h.c2, fun x hx => ?_, World.there_setCells h.th _ _ _, fun x => ?_, ⟨by rw [hn _ (by omega)]; exact h.ce.1, by rw [hf]; exact h.ce.2⟩, ⟨by rw [hn _ (by omega)]; exact h.ch.1, by rw [hf]; exact h.ch.2⟩, ⟨by rw [hn _ (by omega)]; exact h.cm.1, by rw [hf]; exact h.cm.2⟩, h.ls, h.n1, h.n4, h.lk⟩
  · unfold upd
    by_cases e : x = r
    · subst e
      rw [if_pos rfl]
      refine World.rangeAt_setCells_same _ _ _ _ (fun j hj => ?_)
      rw [hl] at hj
      have := h.th (x * 20 + j) (by omega)
      rw [← Nat.add_assoc] at this
      exact this
    · rw [if_neg e]
      refine World.rangeAt_setCells_apart (h.at_ x hx) _ _ _ (.inr ?_)
      rw [plc_length, h.len, hl]
      omega
  · unfold upd
    split
    · exact hQ
    · exact h.len x
end Go.Proofs.Ytffmodpgddecnaa.K
namespace Go.Proofs.Ytffmodpgddecnaa.K
open Go.RowKit
set_option linter.unusedVariables false
abbrev Pu := Cp × Int
def mk (x : Pu) : Pl := (true, x.1, x.2)
def pls (S : List Pu) : List Pl := S.map mk ++ List.replicate (4 - S.length) fr
def putS (n : Nat) (S : List Pu) (c : Cp) (m : Int) : List Pu := ((c, m) :: S.filter (fun x => x.1 ≠ c)).take n
theorem pls_in {S : List Pu} {i : Nat} (h : i < S.length) : (pls S)[i]? = some (mk S[i]) := by
  unfold pls
  rw [List.getElem?_append_left (by simpa using h)]
  simp [h]
theorem pls_out {S : List Pu} {i : Nat} (h : S.length ≤ i) (h4 : i < 4) : (pls S)[i]? = some fr := by
  unfold pls
  rw [List.getElem?_append_right (by simpa using h), List.getElem?_replicate, if_pos (by simp; omega)]
theorem pls_length {S : List Pu} (h : S.length ≤ 4) : (pls S).length = 4 := by simp [pls]; omega
theorem map_er : ∀ (S : List Pu) (i : Nat), (S.eraseIdx i).map mk = (S.map mk).eraseIdx i
  | [], _ => rfl
  | a :: r, 0 => rfl
  | a :: r, i + 1 => by simp only [List.eraseIdx_cons_succ, List.map_cons, map_er r i]
theorem hasP_mk (c : Cp) (x : Pu) : hasP c (mk x) = decide (x.1 = c) := rfl
theorem filter_keep {S : List Pu} {c : Cp} (h : ∀ x ∈ S, x.1 ≠ c) : S.filter (fun x => x.1 ≠ c) = S := List.filter_eq_self.2 (fun x hx => by simpa using h x hx)
theorem filter_erase : ∀ {S : List Pu} (hn : (S.map (·.1)).Nodup) (i : Nat) (h : i < S.length), S.filter (fun x => x.1 ≠ S[i].1) = S.eraseIdx i
  | [], _, i, h => by simp at h
  | a :: r, hn, 0, h => by
    simp only [List.map_cons, List.nodup_cons] at hn
    rw [List.filter_cons_of_neg (by simp)]
    simp only [List.getElem_cons_zero, List.eraseIdx_zero, List.tail_cons]
    exact filter_keep (fun x hx e => hn.1 (List.mem_map.2 ⟨x, hx, e⟩))
  | a :: r, hn, i + 1, h => by
    simp only [List.map_cons, List.nodup_cons] at hn
    have hi : i < r.length := by simpa using h
    have hne : a.1 ≠ (a :: r)[i + 1].1 := fun e => hn.1 (List.mem_map.2 ⟨r[i], List.getElem_mem hi, by simpa using e.symm⟩)
    rw [List.filter_cons_of_pos (by simpa using hne), List.eraseIdx_cons_succ]
    simp only [List.getElem_cons_succ]
    rw [filter_erase hn.2 i hi]
theorem spot_pls {S : List Pu} {c : Cp} {n : Nat} (hl : S.length ≤ n) (h1 : 1 ≤ n) (h4 : n ≤ 4) :
    (∃ (i : Nat) (h : i < S.length), S[i].1 = c ∧ S.find? (fun x => x.1 = c) = some S[i] ∧ spotP (pls S) c n = i) ∨ ((∀ x ∈ S, x.1 ≠ c) ∧ S.find? (fun x => x.1 = c) = none ∧ spotP (pls S) c n = n - 1) := by
  cases hf : S.find? (fun x => x.1 = c) with
  | some x =>
    obtain ⟨hx, i, hi, rfl, hj⟩ := List.find?_eq_some_iff_getElem.1 hf
    have hx2 : S[i].1 = c := by simpa using hx
    refine .inl ⟨i, hi, hx2, rfl, spot_at (p := mk S[i]) (by omega) (pls_in hi) (by rw [hasP_mk]; simpa using hx2) (fun j q hji hq => ?_)⟩
    have := hj j hji
    rw [pls_in (by omega)] at hq
    cases hq
    rw [hasP_mk]
    simpa using this
  | none =>
    have hn : ∀ x ∈ S, x.1 ≠ c := fun x hx => by simpa using List.find?_eq_none.1 hf x hx
    refine .inr ⟨hn, rfl, spot_none (fun j q hj hq => ?_) (by rw [pls_length (by omega)]; exact h4)⟩
    by_cases e : j < S.length
    · rw [pls_in e] at hq
      cases hq
      rw [hasP_mk]
      simpa using hn _ (List.getElem_mem e)
    · rw [pls_out (by omega) (by omega)] at hq
      cases hq
      rfl
theorem putS_len {n : Nat} (S : List Pu) (c : Cp) (m : Int) : (putS n S c m).length ≤ n := by unfold putS; rw [List.length_take]; omega
theorem putS_nodup {n : Nat} {S : List Pu} (c : Cp) (m : Int) (h : (S.map (·.1)).Nodup) : ((putS n S c m).map (·.1)).Nodup := by
  unfold putS
  rw [List.map_take]
  refine List.Nodup.sublist (List.take_sublist _ _) ?_
  rw [List.map_cons, List.nodup_cons]
  refine ⟨fun e => ?_, List.Nodup.sublist (List.Sublist.map _ List.filter_sublist) h⟩
  obtain ⟨x, hx, e2⟩ := List.mem_map.1 e
  simpa [e2] using (List.mem_filter.1 hx).2
theorem lead_pls {S : List Pu} {c : Cp} {n : Nat} (m : Int) (hl : S.length ≤ n) (h1 : 1 ≤ n) (h4 : n ≤ 4) (hn : (S.map (·.1)).Nodup) :
    (true, c, m) :: (pls S).eraseIdx (spotP (pls S) c n) = pls (putS n S c m) := by
  rcases spot_pls (c := c) hl h1 h4 with ⟨i, hi, hc, _, hs⟩ | ⟨hno, _, hs⟩
  · rw [hs]
    have e : putS n S c m = (c, m) :: S.eraseIdx i := by
      unfold putS
      rw [← hc, filter_erase hn i hi, List.take_of_length_le (by simp [List.length_eraseIdx, hi]; omega)]
    rw [e]
    unfold pls
    rw [List.eraseIdx_append_of_lt_length (by simpa using hi)]
    simp only [List.map_cons, List.cons_append, List.length_cons, List.length_eraseIdx, if_pos hi]
    rw [show S.length - 1 + 1 = S.length by omega, ← map_er]
    rfl
  · rw [hs]
    unfold putS
    rw [filter_keep hno]
    by_cases e : S.length < n
    · rw [List.take_of_length_le (by simp; omega)]
      unfold pls
      rw [List.eraseIdx_append_of_length_le (by simp; omega), List.eraseIdx_replicate, if_pos (by simp; omega)]
      simp only [List.map_cons, List.cons_append, List.length_cons]
      rw [show 4 - S.length - 1 = 4 - (S.length + 1) by omega]
      rfl
    · have e2 : S.length = n := by omega
      obtain ⟨v, rfl⟩ : ∃ v, n = v + 1 := ⟨n - 1, by omega⟩
      rw [List.take_succ_cons]
      unfold pls
      rw [List.eraseIdx_append_of_lt_length (by simp; omega)]
      simp only [List.map_cons, List.cons_append, List.length_cons, List.length_take, e2]
      rw [show min v (v + 1) + 1 = v + 1 by omega]
      congr 2
      rw [List.map_take, List.eraseIdx_eq_take_drop_succ, List.drop_eq_nil_of_le (by simp; omega), List.append_nil]
      rfl
structure Fit (n : Nat) (T : Nat → List Pu) (R : Nat → List Pl) : Prop where
  eq : ∀ r, R r = pls (T r)
  len : ∀ r, (T r).length ≤ n
  nd : ∀ r, ((T r).map (·.1)).Nodup
def putT (s n k : Nat) (T : Nat → List Pu) (c : Cp) (m : Int) : Nat → List Pu := if s = 0 then T else fun x => if x = rowN k s c then putS n (T (rowN k s c)) c m else T x
variable {s n k : Nat} {T : Nat → List Pu} {R : Nat → List Pl}
theorem Fit.zero (n : Nat) : Fit n (fun _ => []) R0 := ⟨fun _ => rfl, fun _ => Nat.zero_le _, fun _ => List.nodup_nil⟩
theorem Fit.put (h : Fit n T R) (h1 : 1 ≤ n) (h4 : n ≤ 4) (c : Cp) (m : Int) : Fit n (putT s n k T c m) (putR s n k R c m) := by
  unfold putT putR
  by_cases hs : s = 0
  · rw [if_pos hs, if_pos hs]; exact h
  · rw [if_neg hs, if_neg hs]
    refine ⟨fun r => ?_, fun r => ?_, fun r => ?_⟩
    · unfold upd
      by_cases e : r = rowN k s c
      · rw [if_pos e]
        rw [if_pos e, h.eq]
        exact lead_pls m (h.len _) h1 h4 (h.nd _)
      · rw [if_neg e]
        rw [if_neg e]
        exact h.eq r
    · split
      · exact putS_len _ _ _
      · exact h.len r
    · split
      · exact putS_nodup _ _ (h.nd _)
      · exact h.nd r
end Go.Proofs.Ytffmodpgddecnaa.K
namespace Go.Proofs.Ytffmodpgddecnaa.K
open Go.RowKit
set_option linter.unusedVariables false
set_option linter.unusedSimpArgs false
def Kc (w : World) (g s n k : Nat) (T : Nat → List Pu) (E : Nat) (hi mi : Int) : Prop := E < 256 ∧ ∃ R, Ca w g s n k R (E : Int) hi mi ∧ Fit n T R
def T0 : Nat → List Pu := fun _ => []
variable {w w' : World} {g s n k E : Nat} {T : Nat → List Pu} {hi mi : Int}
theorem Kc.but {S : Nat → Prop} (h : Kc w g s n k T E hi mi) (hb : But S w w') (h1 : ¬ S g) : Kc w' g s n k T E hi mi := by
  obtain ⟨hE, R, hc, hf⟩ := h
  exact ⟨hE, R, hc.but hb h1, hf⟩
theorem Kc.later (h : Kc w g s n k T E hi mi) (hb : Below w.heap.size w w') : Kc w' g s n k T E hi mi := h.but (S := fun _ => False) (But.of hb) (fun h => h)
theorem Kc.lt (h : Kc w g s n k T E hi mi) : g < w.heap.size := by
  obtain ⟨_, R, hc, hf⟩ := h
  exact hc.lt
end Go.Proofs.Ytffmodpgddecnaa.K
namespace Go.Proofs.Ytffmodpgddecnaa.L
open Go.RowKit H
set_option linter.unusedVariables false
def rgt (X : List Tk) (l : Fo) (c : Cp) : Int := rg X (findN X l c)
def givE (X : List Tk) (l : Fo) (need : Int) (c : Cp) : Int := if hasC X l c = false then 3 else if partB need (rgt X l c) = false then 4 else 0
def namG (g : Cp → Int) (o : Int) : List Cp → Int → Cp × Int
  | [], e => ((0, 0, 0), e)
  | c :: r, e => if c.1 ≠ o then namG g o r e else if g c = 0 then (c, 0) else if g c = 4 then namG g o r 4 else namG g o r e
def Tr (X : List Tk) (l : Fo) (T : Nat → List K.Pu) : Prop := ∀ r x, x ∈ T r → hasC X l x.1 = true ∧ rgt X l x.1 = x.2
variable {X : List Tk} {l : Fo} {T : Nat → List K.Pu} {s n k : Nat}
theorem Tr.zero (X : List Tk) (l : Fo) : Tr X l K.T0 := fun r x hx => by cases hx
theorem Tr.put (h : Tr X l T) {c : Cp} (hc : hasC X l c = true) : Tr X l (K.putT s n k T c (rgt X l c)) := fun r x hx => by
  unfold K.putT at hx
  split at hx
  · exact h r x hx
  · simp only at hx
    split at hx
    · unfold K.putS at hx
      rcases List.mem_cons.1 (List.mem_of_mem_take hx) with rfl | h1
      · exact ⟨hc, rfl⟩
      · exact h _ x (List.mem_filter.1 h1).1
    · exact h r x hx
theorem tk_add {m : Nat} (h : Inv m X l) {j : Nat} (x : Tk) (hj : (j : Int) ∉ nums l) {a : Int} (ha : a ∈ nums l) : tk (X.set j x) a = tk X a := tk_set_other _ (nums_nn h.ok ha) (fun e => hj (e ▸ ha))
theorem Tr.add {m : Nat} (h : Tr X l T) (hv : Inv m X l) (p : Int) (c : Cp) (r : Int) (hv2 : Inv m (addR m X l p c r).X (addR m X l p c r).l) : Tr (addR m X l p c r).X (addR m X l p c r).l T := by
  revert hv2
  unfold addR
  by_cases h1 : hasC X l c = true
  · rw [if_pos h1]; exact fun _ => h
  · rw [if_neg h1]
    by_cases h2 : l.length = m
    · rw [if_pos h2]; exact fun _ => h
    · rw [if_neg h2]
      intro hv2
      have hv2 : Inv m (X.set (low l) (c, r)) (l ++ [((low l : Int), p)]) := hv2
      intro q x hx
      obtain ⟨h3, h4⟩ := h q x hx
      obtain ⟨a, ha, e⟩ := hasC_iff.1 h3
      have ht := tk_add hv (c, r) (low_not l) ha
      have ha2 : a ∈ nums (l ++ [((low l : Int), p)]) := by rw [nums_app]; exact List.mem_append_left _ ha
      have h5 : findN (X.set (low l) (c, r)) (l ++ [((low l : Int), p)]) x.1 = a := by
        have := findN_in hv2 ha2
        rw [ht, e] at this
        exact this
      have h6 : findN X l x.1 = a := by rw [← e]; exact findN_in hv ha
      refine ⟨hasC_iff.2 ⟨a, ha2, by rw [ht]; exact e⟩, ?_⟩
      show rg (X.set (low l) (c, r)) (findN (X.set (low l) (c, r)) (l ++ [((low l : Int), p)]) x.1) = x.2
      rw [← h4]
      unfold rgt
      rw [h5, h6]
      unfold rg
      rw [ht]
theorem Tr.root {m : Nat} (h : Tr X l T) (hv : Inv m X l) (c : Cp) (r : Int) (hv2 : Inv m (rootR m X l c r).X (rootR m X l c r).l) : Tr (rootR m X l c r).X (rootR m X l c r).l T := by
  revert hv2
  unfold rootR
  split
  · exact fun _ => h
  · split
    · exact fun _ => h
    · exact fun h2 => h.add hv _ _ _ h2
end Go.Proofs.Ytffmodpgddecnaa.L
namespace Go.Proofs.Ytffmodpgddecnaa.M
open Go.RowKit
set_option linter.unusedVariables false
abbrev Cp := Int × Nat × Nat
end Go.Proofs.Ytffmodpgddecnaa.M
namespace Go.Proofs.Ytffmodpgddecnaa.M
open Go.RowKit
set_option linter.unusedVariables false
def setL (L : List Value) : Nat → List Value → List Value
  | _, [] => L
  | o, v :: r => setL (L.set o v) (o + 1) r
theorem _root_.Go.Proofs.Ytffmodpgddecnaa.Ow.setCells {base : Nat} {e : TypeId} {k g n cap : Nat} : ∀ (vs : List Value) (o : Nat) (w : World) (L : List Value), Ow w base e k (some ⟨g, 0, none⟩) n cap L → Ow (w.setCells g o vs) base e k (some ⟨g, 0, none⟩) n cap (setL L o vs)
  | [], _, _, _, h => h
  | v :: r, o, w, L, h => Ow.setCells r (o + 1) _ _ (h.set1 o v)
theorem _root_.Go.Proofs.Ytffmodpgddecnaa.Ow.fr {w : World} {base : Nat} {e : TypeId} {k g n cap : Nat} {L : List Value} (h : Ow w base e k (some ⟨g, 0, none⟩) n cap L) (j : Nat) : w.frozen? ⟨g, j, none⟩ = false := by
  rcases h.form with ⟨h1, _⟩ | ⟨g', h1, h2, _⟩
  · cases h1
  · cases h1; exact h2 j
end Go.Proofs.Ytffmodpgddecnaa.M
namespace Go.Proofs.Ytffmodpgddecnaa.M
open Go.RowKit
set_option linter.unusedVariables false
structure Dm (w : World) (base g : Nat) (m : Int) (pa : Option Addr) (cap : Nat) (K : List Cp) : Prop where
  c0 : w.cell? ⟨g, 0, none⟩ = some (.int .i64 m)
  c1 : Lies w ⟨g, 1, none⟩ (.slice pa K.length cap)
  own : Ow w base 40 3 pa K.length cap (caps K)
  ap : ∀ k, Blk pa k → k ≠ g
  lo : base ≤ g
variable {w w' : World} {base g : Nat} {m : Int} {pa : Option Addr} {cap : Nat} {K : List Cp}
theorem Dm.lt (h : Dm w base g m pa cap K) : g < w.heap.size := World.block_lt_of_cell? _ _ h.c0
theorem Dm.but {S : Nat → Prop} (h : Dm w base g m pa cap K) (hb : But S w w') (h1 : ¬ S g) (h2 : ∀ k, Blk pa k → ¬ S k) : Dm w' base g m pa cap K :=
  ⟨cell_but hb h.c0 h1, h.c1.but hb h1, h.own.but hb h2, h.ap, h.lo⟩
theorem Dm.later (h : Dm w base g m pa cap K) (hb : Below w.heap.size w w') : Dm w' base g m pa cap K := h.but (S := fun _ => False) (But.of hb) (fun h => h) (fun _ _ h => h)
theorem Dm.hb (h : Dm w base g m pa cap K) : base ≤ w.heap.size := by have := h.lo; have := h.lt; omega
theorem Dm.mono {b : Nat} (h : Dm w base g m pa cap K) (hb : b ≤ base) : Dm w b g m pa cap K := ⟨h.c0, h.c1, h.own.mono hb, h.ap, Nat.le_trans hb h.lo⟩
structure Wr (w w' : World) (g : Nat) (pa pa' : Option Addr) : Prop where
  but : But (fun k => k = g ∨ Blk pa k) w w'
  on : ∀ k, Blk pa' k → Blk pa k ∨ w.heap.size ≤ k
theorem Wr.refl (g : Nat) (pa : Option Addr) (h : Below w.heap.size w w') : Wr w w' g pa pa := ⟨But.of h, fun _ h => .inl h⟩
theorem Wr.below {pa' : Option Addr} {u : World} (h : Wr w w' g pa pa') (ho : Dm w base g m pa cap K) (hb : Below base u w) : Below base u w' :=
  ⟨h.but.os.trans hb.os, h.but.tape.trans hb.tape, h.but.output.trans hb.output, Nat.le_trans hb.size h.but.size, fun k hk => (h.but.block k (by have := ho.hb; omega) (fun e => by
    rcases e with e | e
    · have := ho.lo; omega
    · have := (ho.own.blk k e).1; omega)).trans (hb.block k hk)⟩
theorem Wr.pre {W : World} {pa' : Option Addr} (hb : Below w.heap.size w W) (h : Wr W w' g pa pa') : Wr w w' g pa pa' :=
  ⟨(But.of hb).trans h.but, fun k hk => by
    rcases h.on k hk with e | e
    · exact .inl e
    · exact .inr (Nat.le_trans hb.size e)⟩
theorem Dm.put {pb : Option Addr} {c : Nat} {M : List Cp} (h : Dm w base g m pa cap K) (hG : Gr pa pb w w') (ho : Ow w' base 40 3 pb M.length c (caps M)) : Dm (w'.setCell ⟨g, 1, none⟩ (.slice pb M.length c)) base g m pb c M ∧ Wr w (w'.setCell ⟨g, 1, none⟩ (.slice pb M.length c)) g pa pb := by
  have hn : ¬ Blk pa g := fun e => h.ap g e rfl
  have hap : ∀ k, Blk pb k → k ≠ g := fun k hk => by
    rcases hG.on k hk with e | e
    · exact h.ap k e
    · have := h.lt; omega
  exact ⟨⟨by rw [World.cell?_setCell_other _ _ _ _ (by simp)]; exact cell_but hG.but h.c0 hn, (h.c1.but hG.but hn).put, ho.but ((But.refl (fun k => k = g) w').setCell (p := ⟨g, 1, none⟩) rfl _) hap, hap, h.lo⟩,
    (hG.but.mono (fun k hk => .inr hk)).setCell (.inl rfl) _, fun k hk => hG.on k hk⟩
theorem wpAnyH_norm {P : Program} {md : Region.Mode} {ops : Array Oper} {Q : Exit → Act → World → Prop} {S : World → Prop} {fuel f2 : Nat} {listed l2 : Array Bool} {a : Act} {w : World} (hl : listed = l2) (hf : fuel = f2) (h : wpAnyH P md ops Q S f2 l2 a w) : wpAnyH P md ops Q S fuel listed a w := by
  subst hl hf
  exact h
def okI (K : List Cp) (i : Int) : Bool := decide (0 ≤ i ∧ i < (K.length : Int))
theorem Dm.new (w : World) (m : Int) (t : TypeId) : Dm (w.alloc (.cells #[.int .i64 m, .slice none 0 0] t)) w.heap.size w.heap.size m none 0 [] :=
  ⟨by simp [go_sem], ⟨by simp [go_sem], by simp [go_sem]⟩, Ow.nil _ _ _ _, fun k hk => (by obtain ⟨_, e, _⟩ := hk; cases e), Nat.le_refl _⟩
end Go.Proofs.Ytffmodpgddecnaa.M
namespace Go.Proofs.Ytffmodpgddecnaa.M
open Go.RowKit
set_option linter.unusedVariables false
set_option linter.unusedSimpArgs false
variable {w w' : World} {base g : Nat} {m : Int} {pa : Option Addr} {cap : Nat} {K : List Cp}
def atC (K : List Cp) (i : Int) : Cp := (K[i.toNat]?).getD (0, 0, 0)
def pickE (m : Int) (K : List Cp) (P : List Int) : Int := if P.all (okI K) = true then (if m < (P.length : Int) then 14 else 0) else 15
def pickL (m : Int) (K : List Cp) (P : List Int) : List Cp := if pickE m K P = 0 then P.map (atC K) else []
end Go.Proofs.Ytffmodpgddecnaa.M
namespace Go.Proofs.Ytffmodpgddecnaa.P
open Go.RowKit
set_option linter.unusedVariables false
def Rise (L : List Int) : Prop := L.Pairwise (· < ·)
theorem Rise.le {L : List Int} (h : Rise L) : L.Pairwise (· ≤ ·) := List.Pairwise.imp (fun h => Int.le_of_lt h) h
def out (L : List Int) (n : Int) : List Int := L.filter (fun y => y != n)
structure Iv (m x : Int) (L : List Int) : Prop where
  m1 : 1 ≤ m
  m2 : m ≤ 32
  len : (L.length : Int) ≤ m
  rise : Rise L
  lo : ∀ y ∈ L, 0 ≤ y
  hi : ∀ y ∈ L, y < x
  x1 : 0 ≤ x
  x2 : x ≤ 65536
def fullP (m x : Int) (L : List Int) : Bool := decide (m ≤ (L.length : Int) ∨ 65535 < x)
theorem Iv.len32 {m x : Int} {L : List Int} (h : Iv m x L) : L.length ≤ 32 := by have := h.len; have := h.m2; omega
end Go.Proofs.Ytffmodpgddecnaa.P
namespace Go.Proofs.Ytffmodpgddecnaa.P
open Go.RowKit
set_option linter.unusedVariables false
structure Ob (w : World) (base g : Nat) (m x : Int) (pa : Option Addr) (cap : Nat) (L : List Int) : Prop where
  c0 : w.cell? ⟨g, 0, none⟩ = some (.int .i64 m)
  c1 : Lies w ⟨g, 1, none⟩ (.int .i64 x)
  c2 : Lies w ⟨g, 2, none⟩ (.slice pa L.length cap)
  own : Own w base 3 pa L.length cap (ints L)
  ap : ∀ k, Blk pa k → k ≠ g
  lo : base ≤ g
variable {w w' : World} {base g : Nat} {m x : Int} {pa : Option Addr} {cap : Nat} {L : List Int}
theorem Ob.lt (h : Ob w base g m x pa cap L) : g < w.heap.size := World.block_lt_of_cell? _ _ h.c0
theorem Ob.but {S : Nat → Prop} (h : Ob w base g m x pa cap L) (hb : But S w w') (h1 : ¬ S g) (h2 : ∀ k, Blk pa k → ¬ S k) : Ob w' base g m x pa cap L :=
  ⟨cell_but hb h.c0 h1, h.c1.but hb h1, h.c2.but hb h1, h.own.but hb h2, h.ap, h.lo⟩
theorem Ob.later (h : Ob w base g m x pa cap L) (hb : Below w.heap.size w w') : Ob w' base g m x pa cap L := h.but (S := fun _ => False) (But.of hb) (fun h => h) (fun _ _ h => h)
theorem Ob.hb (h : Ob w base g m x pa cap L) : base ≤ w.heap.size := by have := h.lo; have := h.lt; omega
structure Rd (w w' : World) (g : Nat) (pa pa' : Option Addr) : Prop where
  but : But (fun k => k = g ∨ Blk pa k) w w'
  on : ∀ k, Blk pa' k → Blk pa k ∨ w.heap.size ≤ k
theorem Rd.refl (g : Nat) (pa : Option Addr) (h : Below w.heap.size w w') : Rd w w' g pa pa := ⟨But.of h, fun _ h => .inl h⟩
theorem Rd.below {pa' : Option Addr} {u : World} (h : Rd w w' g pa pa') (ho : Ob w base g m x pa cap L) (hb : Below base u w) : Below base u w' :=
  ⟨h.but.os.trans hb.os, h.but.tape.trans hb.tape, h.but.output.trans hb.output, Nat.le_trans hb.size h.but.size, fun k hk => (h.but.block k (by have := ho.hb; omega) (fun e => by
    rcases e with e | e
    · have := ho.lo; omega
    · have := ho.own.blk k e; omega)).trans (hb.block k hk)⟩
theorem Ob.put {pb : Option Addr} {c : Nat} {M : List Int} (h : Ob w base g m x pa cap L) (hG : Gr pa pb w w') (ho : Own w' base 3 pb M.length c (ints M)) : Ob (w'.setCell ⟨g, 2, none⟩ (.slice pb M.length c)) base g m x pb c M ∧ Rd w (w'.setCell ⟨g, 2, none⟩ (.slice pb M.length c)) g pa pb := by
  have hn : ¬ Blk pa g := fun e => h.ap g e rfl
  have hap : ∀ k, Blk pb k → k ≠ g := fun k hk => by
    rcases hG.on k hk with e | e
    · exact h.ap k e
    · have := h.lt; omega
  exact ⟨⟨by rw [World.cell?_setCell_other _ _ _ _ (by simp)]; exact cell_but hG.but h.c0 hn, (h.c1.but hG.but hn).other (by simp), (h.c2.but hG.but hn).put, ho.but ((But.refl (fun k => k = g) w').setCell (p := ⟨g, 2, none⟩) rfl _) hap, hap, h.lo⟩,
    (hG.but.mono (fun k hk => .inr hk)).setCell (.inl rfl) _, fun k hk => hG.on k hk⟩
end Go.Proofs.Ytffmodpgddecnaa.P
namespace Go.Proofs.Ytffmodpgddecnaa.S
open Go.RowKit
theorem info5 : (Try.prog.info? 5).map (fun i => (i.zero, i.size, i.bytes)) = some (some (.int .u8 0), 1, 1) := by kernel_rfl
def u8s (l : List Nat) : List Value := l.map fun (n : Nat) => Value.int .u8 (n : Int)
theorem u8s_length (l : List Nat) : (u8s l).length = l.length := by simp [u8s]
theorem u8s_one (l : List Nat) : ∀ u ∈ u8s l, u.oneCell' = true := by
  intro u hu
  simp only [u8s, List.mem_map] at hu
  obtain ⟨n, _, rfl⟩ := hu
  rfl
theorem append_bytes {w : World} {base : Nat} {a : Option Addr} {n cap : Nat} {L : List Value} {b : Option Addr} {m c : Nat} {M : List Value} (h : Own w base 5 a n cap L) (k : Row w b m c M) (hb : base ≤ w.heap.size) (hr : n + m ≤ 140737488355328) :
    ∃ a' cap' w', (Builtin.append_ #[41, 41] 41 #[.slice a n cap, .slice b m c]).run Try.prog w = .ok (.slice a' (n + m) cap') w' ∧ Own w' base 5 a' (n + m) cap' (L ++ M) ∧ Gr a a' w w' :=
  append_gen 41 5 _ 1 Try.underlying41 info5 rfl h k hb (by omega) hr
end Go.Proofs.Ytffmodpgddecnaa.S
namespace Go.Proofs.Ytffmodpgddecnaa.S
open Go.RowKit
set_option linter.unusedVariables false
structure Arn (w : World) (g pb n : Nat) (t : Nat → Bool) (B : Nat → Nat → Nat) : Prop where
  ne : g ≠ pb
  le : n ≤ 256
  head : w.cell? ⟨g, 0, none⟩ = some (.slice (some ⟨pb, 0, none⟩) n n)
  mark : ∀ i, i < 256 → Lies w ⟨g, 1 + i, none⟩ (.bool (t i))
  page : ∀ i j, i < n → j < 64 → Lies w ⟨pb, i * 64 + j, none⟩ (.int .u8 ((B i j : Nat) : Int))
  lt : pb < w.heap.size
  only : ∀ i, t i = true → i < n
  zero : ∀ i j, t i = false → B i j = 0
  small : ∀ i j, B i j < 256
theorem Arn.but {S : Nat → Prop} {w w' : World} {g pb n : Nat} {t : Nat → Bool} {B : Nat → Nat → Nat} (hb : But S w w') (h : Arn w g pb n t B) (h1 : ¬ S g) (h2 : ¬ S pb) : Arn w' g pb n t B :=
  ⟨h.ne, h.le, cell_but hb h.head h1, fun i hi => (h.mark i hi).but hb h1, fun i j hi hj => (h.page i j hi hj).but hb h2, Nat.lt_of_lt_of_le h.lt hb.size, h.only, h.zero, h.small⟩
theorem Arn.later {w w' : World} {g pb n : Nat} {t : Nat → Bool} {B : Nat → Nat → Nat} (hb : Below w.heap.size w w') (h : Arn w g pb n t B) : Arn w' g pb n t B :=
  h.but (S := fun _ => False) (But.of hb) (fun h => h) (fun h => h)
theorem Arn.alloc {w : World} {g pb n : Nat} {t : Nat → Bool} {B : Nat → Nat → Nat} (h : Arn w g pb n t B) (o : Obj) : Arn (w.alloc o) g pb n t B := h.later (below1 _ _)
end Go.Proofs.Ytffmodpgddecnaa.S
namespace Go.Proofs.Ytffmodpgddecnaa.S
open Go.RowKit
set_option linter.unusedVariables false
def lst (n : Nat) (t : Nat → Bool) (b : Bool) : List Nat := (List.range n).filter fun i => t i == b
def nats (l : List Nat) : List Int := l.map fun (k : Nat) => (k : Int)
theorem lst_succ (n : Nat) (t : Nat → Bool) (b : Bool) : lst (n + 1) t b = lst n t b ++ (if t n == b then [n] else []) := by
  simp only [lst, List.range_succ, List.filter_append]
  congr 1
  by_cases h : t n == b <;> simp [h]
theorem mem_lst {n : Nat} {t : Nat → Bool} {b : Bool} {i : Nat} : i ∈ lst n t b ↔ i < n ∧ t i = b := by simp [lst]
end Go.Proofs.Ytffmodpgddecnaa.S
namespace Go.Proofs.Ytffmodpgddecnaa.S
open Go.RowKit
set_option linter.unusedVariables false
def pgL (B : Nat → Nat → Nat) (p off m : Nat) : List Nat := (List.range m).map fun k => B p (off + k)
theorem pgL_length (B : Nat → Nat → Nat) (p off m : Nat) : (pgL B p off m).length = m := by simp [pgL]
theorem pgL_get (B : Nat → Nat → Nat) (p off m k : Nat) (h : k < m) : (u8s (pgL B p off m))[k]? = some (.int .u8 ((B p (off + k) : Nat) : Int)) := by simp [u8s, pgL, h]
theorem Arn.range {w : World} {g pb n : Nat} {t : Nat → Bool} {B : Nat → Nat → Nat} (h : Arn w g pb n t B) {p : Nat} (hp : p < n) : w.rangeAt pb (p * 64) (u8s (pgL B p 0 64)) := fun j v hv => by
  have hj : j < 64 := by have := (List.getElem?_eq_some_iff.1 hv).1; rwa [u8s_length, pgL_length] at this
  rw [pgL_get _ _ _ _ _ hj, Nat.zero_add] at hv
  cases hv
  exact (h.page p j hp hj).1
end Go.Proofs.Ytffmodpgddecnaa.S
namespace Go.Proofs.Ytffmodpgddecnaa.S
open Go.RowKit
set_option linter.unusedVariables false
theorem Arn.ext {w : World} {g pb n : Nat} {t : Nat → Bool} {B C : Nat → Nat → Nat} (h : Arn w g pb n t B) (e : ∀ i j, i < n → j < 64 → C i j = B i j) (hz : ∀ i j, t i = false → C i j = 0) (hs : ∀ i j, C i j < 256) : Arn w g pb n t C :=
  ⟨h.ne, h.le, h.head, h.mark, fun i j hi hj => by rw [e i j hi hj]; exact h.page i j hi hj, h.lt, h.only, hz, hs⟩
end Go.Proofs.Ytffmodpgddecnaa.S
