import Derived.Test.YtffmodpgddecnaaZ04
import Derived.Shelf.SlIterI.Nil
import Derived.Shelf.SortM.Plain
import Derived.Shelf.SortM.SortNone
import Derived.Test.YtffmodpgddecnaaZ02
import Derived.Test.YtffmodpgddecnaaZ00
import Derived.LaidEql
import Derived.Stop.Asserts
import Derived.RowKitTokens
import Derived.Test.YtffmodpgddecnaaZ03
import Derived.Defers
import Derived.Test.YtffmodpgddecnaaZ01
namespace Go.Proofs.Ytffmodpgddecnaa.S
open Go.RowKit Go.Maps Go.Sort Go.Shelf
set_option linter.unusedVariables false
def sortedA_ren : Go.Shelf.Ren := ⟨fun | 6 => 43 | 8 => 63 | 9 => 64 | 11 => 78 | 13 => 80 | 12 => 79 | 23 => 93 | 24 => 94 | 14 => 84 | 15 => 85 | 16 => 86 | 17 => 87 | 18 => 88 | 19 => 89 | 20 => 90 | 21 => 91 | 22 => 92 | 25 => 95 | 26 => 96 | 27 => 97 | 28 => 98 | 29 => 99 | 30 => 100 | 31 => 101 | n => n, fun | 26 => 3 | 28 => 97 | 24 => 45 | 0 => 0 | 3 => 3 | 37 => 134 | 48 => 146 | 50 => 36 | 4 => 4 | 40 => 139 | 39 => 138 | 45 => 143 | 5 => 5 | 9 => 9 | 51 => 148 | 55 => 152 | 57 => 154 | 58 => 155 | 33 => 100 | n => n, fun | n => n⟩
theorem sortedA : SlLaysZI.n6 Try.prog sortedA_ren where
  mixed := by kernel_rfl
  f6 := ⟨ "slices.Sorted[int]", by decide, Try.func43.trans (congrArg some (by kernel_rfl))⟩
  f8 := ⟨ "slices.Collect[int]", by decide, Try.func63.trans (congrArg some (by kernel_rfl))⟩
  f11 := ⟨ "slices.AppendSeq[[]int,int]", by decide, Try.func78.trans (congrArg some (by kernel_rfl))⟩
  t0 := Try.underlying0
  a0 := Try.isAgg0
  z0 := Try.sizeOf0
  v0 := Try.zeroValue0
  t24 := Try.underlying45
  a24 := Try.isAgg45
  z24 := Try.sizeOf45
  v24 := Try.zeroValue45
  t26 := Try.underlying3
  a26 := Try.isAgg3
  z26 := Try.sizeOf3
  v26 := Try.zeroValue3
  t28 := Try.underlying97
  a28 := Try.isAgg97
  z28 := Try.sizeOf97
  v28 := Try.zeroValue97
  i26 := by kernel_rfl
def sortA_ren : Go.Shelf.Ren := ⟨fun | 5 => 64 | 8 => 80 | 7 => 79 | 19 => 93 | 20 => 94 | 10 => 84 | 11 => 85 | 12 => 86 | 13 => 87 | 14 => 88 | 15 => 89 | 16 => 90 | 17 => 91 | 18 => 92 | 30 => 95 | 31 => 96 | 32 => 97 | 33 => 98 | 34 => 99 | 35 => 100 | 40 => 101 | n => n, fun | 23 => 45 | 25 => 3 | 3 => 3 | 32 => 134 | 22 => 45 | 0 => 0 | 44 => 146 | 46 => 36 | 4 => 4 | 36 => 139 | 35 => 138 | 41 => 143 | 5 => 5 | 9 => 9 | 53 => 148 | 57 => 152 | 63 => 154 | 64 => 155 | n => n, fun | n => n⟩
theorem sortA : SlLaysM.n5 Try.prog sortA_ren where
  mixed := by kernel_rfl
  f5 := ⟨ "slices.Sort[[]int,int]", by decide, Try.func64.trans (congrArg some (by kernel_rfl))⟩
  f7 := ⟨ "slices.pdqsortOrdered[int]", by decide, Try.func79.trans (congrArg some (by kernel_rfl))⟩
  f8 := Try.func80.trans (congrArg some (by kernel_rfl))
  f10 := ⟨ "slices.insertionSortOrdered[int]", by decide, Try.func84.trans (congrArg some (by kernel_rfl))⟩
  f11 := ⟨ "slices.heapSortOrdered[int]", by decide, Try.func85.trans (congrArg some (by kernel_rfl))⟩
  f12 := ⟨ "slices.breakPatternsOrdered[int]", by decide, Try.func86.trans (congrArg some (by kernel_rfl))⟩
  f13 := ⟨ "slices.choosePivotOrdered[int]", by decide, Try.func87.trans (congrArg some (by kernel_rfl))⟩
  f14 := ⟨ "slices.reverseRangeOrdered[int]", by decide, Try.func88.trans (congrArg some (by kernel_rfl))⟩
  f15 := ⟨ "slices.partialInsertionSortOrdered[int]", by decide, Try.func89.trans (congrArg some (by kernel_rfl))⟩
  f16 := ⟨ "cmp.Less[int]", by decide, Try.func90.trans (congrArg some (by kernel_rfl))⟩
  f17 := ⟨ "slices.partitionEqualOrdered[int]", by decide, Try.func91.trans (congrArg some (by kernel_rfl))⟩
  f18 := ⟨ "slices.partitionOrdered[int]", by decide, Try.func92.trans (congrArg some (by kernel_rfl))⟩
  f19 := Try.func93.trans (congrArg some (by kernel_rfl))
  f20 := Try.func94.trans (congrArg some (by kernel_rfl))
  f30 := ⟨ "slices.siftDownOrdered[int]", by decide, Try.func95.trans (congrArg some (by kernel_rfl))⟩
  f31 := Try.func96.trans (congrArg some (by kernel_rfl))
  f32 := Try.func97.trans (congrArg some (by kernel_rfl))
  f33 := ⟨ "slices.medianAdjacentOrdered[int]", by decide, Try.func98.trans (congrArg some (by kernel_rfl))⟩
  f34 := ⟨ "slices.medianOrdered[int]", by decide, Try.func99.trans (congrArg some (by kernel_rfl))⟩
  f35 := ⟨ "cmp.isNaN[int]", by decide, Try.func100.trans (congrArg some (by kernel_rfl))⟩
  f40 := ⟨ "slices.order2Ordered[int]", by decide, Try.func101.trans (congrArg some (by kernel_rfl))⟩
  t0 := Try.underlying0
  a0 := Try.isAgg0
  z0 := Try.sizeOf0
  v0 := Try.zeroValue0
  t3 := Try.underlying3
  a3 := Try.isAgg3
  z3 := Try.sizeOf3
  v3 := Try.zeroValue3
  t4 := Try.underlying4
  a4 := Try.isAgg4
  z4 := Try.sizeOf4
  v4 := Try.zeroValue4
  t5 := Try.underlying5
  a5 := Try.isAgg5
  z5 := Try.sizeOf5
  v5 := Try.zeroValue5
  t9 := Try.underlying9
  a9 := Try.isAgg9
  z9 := Try.sizeOf9
  v9 := Try.zeroValue9
  t22 := Try.underlying45
  a22 := Try.isAgg45
  z22 := Try.sizeOf45
  v22 := Try.zeroValue45
  t23 := Try.underlying45
  a23 := Try.isAgg45
  z23 := Try.sizeOf45
  v23 := Try.zeroValue45
  t25 := Try.underlying3
  a25 := Try.isAgg3
  z25 := Try.sizeOf3
  v25 := Try.zeroValue3
  t32 := Try.underlying134
  a32 := Try.isAgg134
  z32 := Try.sizeOf134
  v32 := Try.zeroValue134
  t35 := Try.underlying138
  a35 := Try.isAgg138
  z35 := Try.sizeOf138
  v35 := Try.zeroValue138
  t36 := Try.underlying139
  a36 := Try.isAgg139
  z36 := Try.sizeOf139
  v36 := Try.zeroValue139
  t41 := Try.underlying143
  a41 := Try.isAgg143
  z41 := Try.sizeOf143
  v41 := Try.zeroValue143
  t44 := Try.underlying146
  a44 := Try.isAgg146
  z44 := Try.sizeOf146
  v44 := Try.zeroValue146
  t46 := Try.underlying36
  a46 := Try.isAgg36
  z46 := Try.sizeOf36
  v46 := Try.zeroValue36
  t53 := Try.underlying148
  a53 := Try.isAgg148
  z53 := Try.sizeOf148
  v53 := Try.zeroValue148
  t57 := Try.underlying152
  a57 := Try.isAgg152
  z57 := Try.sizeOf152
  v57 := Try.zeroValue152
  t63 := Try.underlying154
  a63 := Try.isAgg154
  z63 := Try.sizeOf154
  v63 := Try.zeroValue154
  t64 := Try.underlying155
  a64 := Try.isAgg155
  z64 := Try.sizeOf155
  v64 := Try.zeroValue155
theorem sortsA (m : Nat) : AnyZI.SortsIn Try.prog sortedA_ren Fence.wide m :=
  ⟨fun blk off cap ss W hH hblk hsz => callsIn_wide.2 (AnyM.slices_Sort_int sortA blk off cap ss W hH hblk hsz),
   fun p cap W => callsIn_wide.2 (AnyM.slices_Sort_int_none sortA p cap W)⟩
end Go.Proofs.Ytffmodpgddecnaa.S
namespace Go.Proofs.Ytffmodpgddecnaa.S
open Go.RowKit
set_option linter.unusedVariables false
structure Sid where
  s : Nat
  g : Nat
  pb : Nat
  m : Nat
  n : Nat
  room : Nat
def St (w : World) (z : Sid) (nx : Int) (Os : List Ob) : Prop := ∃ t B, Sto w z.s z.g z.pb z.m z.n z.room nx t B Os
def Zb (z : Sid) (k : Nat) : Prop := Sb z.s z.g z.pb z.m k
def i64ok (x : Int) : Prop := -9223372036854775808 ≤ x ∧ x < 9223372036854775808
theorem St.but {S : Nat → Prop} {w w' : World} {z : Sid} {nx : Int} {Os : List Ob} (hb : But S w w') (h : St w z nx Os) (h1 : ∀ k, Zb z k → ¬ S k) (h2 : ∀ k, Rb Os k → ¬ S k) : St w' z nx Os := by
  obtain ⟨t, B, h⟩ := h
  exact ⟨t, B, h.but hb h1 h2⟩
theorem St.later {w w' : World} {z : Sid} {nx : Int} {Os : List Ob} (hb : Below w.heap.size w w') (h : St w z nx Os) : St w' z nx Os := by
  obtain ⟨t, B, h⟩ := h
  exact ⟨t, B, h.later hb⟩
end Go.Proofs.Ytffmodpgddecnaa.S
namespace Go.Proofs.Ytffmodpgddecnaa.S
open Go.RowKit
set_option linter.unusedVariables false
set_option linter.unusedSimpArgs false
theorem St.rise {w : World} {z : Sid} {nx : Int} {Os : List Ob} (h : St w z nx Os) : Os.Pairwise (fun a b => a.id < b.id) := by
  obtain ⟨t, B, h⟩ := h
  exact h.rise
theorem St.ids {w : World} {z : Sid} {nx : Int} {Os : List Ob} (h : St w z nx Os) : ∀ o ∈ Os, 1 ≤ o.id ∧ o.id < nx := by
  obtain ⟨t, B, h⟩ := h
  exact h.ids
theorem St.rm {w : World} {z : Sid} {nx : Int} {Os : List Ob} (h : St w z nx Os) : Os.length ≤ z.room := by
  obtain ⟨t, B, h⟩ := h
  exact h.rm.1
theorem St.nx1 {w : World} {z : Sid} {nx : Int} {Os : List Ob} (h : St w z nx Os) : 1 ≤ nx ∧ nx ≤ 4611686018427387905 := by
  obtain ⟨t, B, h⟩ := h
  exact h.nx1
theorem St.small {w : World} {z : Sid} {nx : Int} {Os : List Ob} (h : St w z nx Os) : ∀ o ∈ Os, ∀ x ∈ o.data, x < 256 := by
  obtain ⟨t, B, h⟩ := h
  exact fun o ho => h.small ho
end Go.Proofs.Ytffmodpgddecnaa.S
namespace Go.Proofs.Ytffmodpgddecnaa.S
open Go.RowKit
set_option linter.unusedVariables false
def usedV (V : List (Int × List Nat)) : Nat := (V.map fun p => needN p.2.length).sum
end Go.Proofs.Ytffmodpgddecnaa.S
namespace Go.Proofs.Ytffmodpgddecnaa.S
open Go.RowKit
set_option linter.unusedVariables false
def atV (V : List (Int × List Nat)) (id : Int) : Option (List Nat) := (V.find? fun p => decide (p.1 = id)).map Prod.snd
def mayV (room n : Nat) (nx : Int) (V : List (Int × List Nat)) (size : Int) : Int :=
  if size < 0 ∨ 4096 < size then 6 else if room ≤ V.length ∨ 4611686018427387904 < nx then 7 else if (n : Int) - (usedV V : Int) < (needN size.toNat : Int) then 8 else 0
def rvE (V : List (Int × List Nat)) (id off k : Int) : Int := match atV V id with
  | none => 20
  | some l => if 0 ≤ off ∧ 0 ≤ k ∧ k ≤ 1024 ∧ off + k ≤ (l.length : Int) then 0 else 5
def rvL (V : List (Int × List Nat)) (id off k : Int) : List Nat := match atV V id with
  | none => []
  | some l => if 0 ≤ off ∧ 0 ≤ k ∧ k ≤ 1024 ∧ off + k ≤ (l.length : Int) then (l.drop off.toNat).take k.toNat else []
end Go.Proofs.Ytffmodpgddecnaa.S
namespace Go.Proofs.Ytffmodpgddecnaa.S
open Go.RowKit
set_option linter.unusedVariables false
set_option linter.unusedSimpArgs false
def setV (id : Int) (off : Nat) (D : List Nat) (p : Int × List Nat) : Int × List Nat := if p.1 = id then (p.1, putL p.2 D off) else p
def wrV (V : List (Int × List Nat)) (id off : Int) (D : List Nat) : List (Int × List Nat) := if rvE V id off (D.length : Int) = 0 then V.map (setV id off.toNat D) else V
end Go.Proofs.Ytffmodpgddecnaa.S
namespace Go.Proofs.Ytffmodpgddecnaa.S
open Go.RowKit
set_option linter.unusedVariables false
set_option linter.unusedSimpArgs false
def vw (Os : List Ob) : List (Int × List Nat) := Os.map fun o => (o.id, o.data)
theorem vw_length (Os : List Ob) : (vw Os).length = Os.length := by simp [vw]
theorem vw_at (Os : List Ob) (id : Int) : atV (vw Os) id = (at? Os id).map Ob.data := by
  unfold atV at? vw
  rw [List.find?_map]
  simp [Function.comp_def]
end Go.Proofs.Ytffmodpgddecnaa.S
namespace Go.Proofs.Ytffmodpgddecnaa.V
open Go.RowKit
open Go.Proofs.Ytffmodpgddecnaa.H (B64 Cp)
set_option linter.unusedVariables false
structure Hd where
  A : Ad
  kn : Nat
  mo : Nat
  qg : Nat
  qb : Nat
  e : Int
  z : S.Sid
  g : Nat
  gb : Nat
  n : Nat
  c : Nat → Nat
  pg : Nat
  pm : Int
  lg : Nat
  lm : Int
  cg : Nat
  cs : Nat
  cw : Nat
  v : Nat
  kb : Nat
  W : Int
  base : Nat
def Hd.cf (H : Hd) : List Value := [.int .i64 H.W, .int .i64 (H.z.room : Int), .int .i64 (H.z.n : Int), .int .i64 (H.mo : Int), .int .i64 H.e, .int .i64 H.pm, .int .i64 H.lm, .int .i64 (H.cs : Int), .int .i64 (H.cw : Int), .int .i64 (H.kn : Int)]
def Hd.kc (H : Hd) : List Value := H.cf ++ [.pointer (some ⟨H.g, 0, none⟩), .pointer (some ⟨H.z.s, 0, none⟩), .pointer (some ⟨H.A.g, 0, none⟩), .pointer (some ⟨H.qg, 0, none⟩), .pointer (some ⟨H.pg, 0, none⟩), .map (some H.lg), .pointer (some ⟨H.v, 0, none⟩)]
def Kb (w : World) (H : Hd) : Prop := ∀ j v, H.kc[j]? = some v → w.cell? ⟨H.kb, j, none⟩ = some v
theorem Kb.but {S : Nat → Prop} {w w' : World} {H : Hd} (h : Kb w H) (hb : But S w w') (hn : ¬ S H.kb) : Kb w' H := fun j v hv => cell_but hb (h j v hv) hn
theorem Kb.lt {w : World} {H : Hd} (h : Kb w H) : H.kb < w.heap.size := World.block_lt_of_cell? _ _ (h 0 _ rfl)
def mapP (L : List Int) (G : Int → Nat) : DataW Value := .map (L.map (fun i => (.int .i64 i, .held (.pointer (some ⟨G i, 0, none⟩)))))
structure Li (w : World) (H : Hd) (Pr : List Int) (D : Int → List Cp) (G : Int → Nat) (pa : Int → Option Addr) (cap : Int → Nat) (col : Nat → Int) : Prop where
  map : w.ownsMap Try.prog 3 S.hr H.lg Pr.length (mapP Pr G)
  each : ∀ i ∈ Pr, M.Dm w H.base (G i) H.lm (pa i) (cap i) (D i)
  col : ∀ i ∈ Pr, ∀ k, k = G i ∨ Blk (pa i) k → col k = i ∧ k ≠ H.lg
def LiB (Pr : List Int) (G : Int → Nat) (pa : Int → Option Addr) (lg : Nat) (k : Nat) : Prop := k = lg ∨ ∃ i ∈ Pr, k = G i ∨ Blk (pa i) k
theorem Li.but {B : Nat → Prop} {w w' : World} {H : Hd} {Pr : List Int} {D : Int → List Cp} {G : Int → Nat} {pa : Int → Option Addr} {cap : Int → Nat} {col : Nat → Int} (h : Li w H Pr D G pa cap col) (hb : But B w w') (hS : ∀ k, LiB Pr G pa H.lg k → ¬ B k) : Li w' H Pr D G pa cap col :=
  ⟨S.owns_but hb h.map (hS _ (.inl rfl)), fun i hi => (h.each i hi).but hb (hS _ (.inr ⟨i, hi, .inl rfl⟩)) (fun k hk => hS k (.inr ⟨i, hi, .inr hk⟩)), h.col⟩
def Went (w : World) (N : Nat → Prop) (w' : World) (N' : Nat → Prop) : Prop := (∀ k, N' k → N k ∨ w.heap.size ≤ k) ∧ But N w w'
theorem Went.refl (w : World) (N : Nat → Prop) : Went w N w N := ⟨fun k h => .inl h, But.refl _ _⟩
theorem Went.later {w w' : World} {N : Nat → Prop} (hb : Below w.heap.size w w') : Went w N w' N := ⟨fun k h => .inl h, But.of hb⟩
theorem Went.trans {w w1 w2 : World} {N N1 N2 : Nat → Prop} (h : Went w N w1 N1) (k : Went w1 N1 w2 N2) : Went w N w2 N2 := by
  refine ⟨fun j hj => ?_, ⟨k.2.os.trans h.2.os, k.2.tape.trans h.2.tape, k.2.output.trans h.2.output, Nat.le_trans h.2.size k.2.size, fun j hj hn => ?_⟩⟩
  · rcases k.1 j hj with h1 | h1
    · exact h.1 j h1
    · exact .inr (Nat.le_trans h.2.size h1)
  · refine (k.2.block j (Nat.lt_of_lt_of_le hj h.2.size) (fun h1 => ?_)).trans (h.2.block j hj hn)
    rcases h.1 j h1 with h2 | h2
    · exact hn h2
    · omega
theorem Went.out {w w' : World} {N N' : Nat → Prop} (h : Went w N w' N') {b : Nat} (hb : b < w.heap.size) (hn : ¬ N b) : ¬ N' b := fun e => by
  rcases h.1 b e with h1 | h1
  · exact hn h1
  · omega
theorem Went.size {w w' : World} {N N' : Nat → Prop} (h : Went w N w' N') : w.heap.size ≤ w'.heap.size := h.2.size
theorem Went.cell {w w' : World} {N N' : Nat → Prop} (h : Went w N w' N') {p : Addr} {v : Value} (hc : w.cell? p = some v) (hn : ¬ N p.block) : w'.cell? p = some v := cell_but h.2 hc hn
section
variable {w w' : World} {H : Hd} {s s' : Sta} {d d' : Nat → List K.Pu} {M : Nat → Nat → Prop} {N : Nat → Prop}
end
end Go.Proofs.Ytffmodpgddecnaa.V
namespace Go.Proofs.Ytffmodpgddecnaa.V
open Go.RowKit
open Go.Proofs.Ytffmodpgddecnaa.H (B64 Cp)
set_option linter.unusedVariables false
structure Pm where
  mo : Nat
  e : Int
  n : Nat
  c : Nat → Nat
  room : Nat
  pgs : Nat
  pm : Int
  lm : Int
  W : Int
def Hd.p (H : Hd) : Pm := ⟨H.mo, H.e, H.n, H.c, H.z.room, H.z.n, H.pm, H.lm, H.W⟩
structure KF (p : Pm) (s : Sta) : Prop where
  fit : Fit p.mo s
  le : s.t ≤ p.n
  cs : ∀ i, i < p.n → p.c i < B64 * B64
  iv : P.Iv p.pm s.px s.P
  ln : ∀ i ∈ s.P, ((s.D i).length : Int) ≤ p.lm
  wd : ∀ i ∈ s.P, ∀ c ∈ s.D i, c.2.1 < B64 ∧ c.2.2 < B64
  lm : 1 ≤ p.lm ∧ p.lm ≤ 32
  ks : s.ks = s.P
  nx : 1 ≤ s.nx ∧ s.nx ≤ 4611686018427387905
structure Rep where
  code : Int
  cap : Cp
  data : List Nat
  num : Int
def rep (c : Int) : Rep := ⟨c, (0, 0, 0), [], 0⟩
def Pm.d (p : Pm) : D.Par := ⟨p.mo, p.e, (p.mo : Int), p.n, p.c⟩
def Sta.d (s : Sta) : D.Sta := ⟨s.X, s.l, s.L, s.t⟩
def putD (s : Sta) (a : D.Sta) : Sta := { s with X := a.X, l := a.l, L := a.L, t := a.t }
def creA (p : Pm) (s : Sta) (size : Int) : Rep × Sta :=
  if S.mayV p.room p.pgs s.nx s.V size ≠ 0 then (rep (S.mayV p.room p.pgs s.nx s.V size), s) else
  if (D.rootA p.d s.d s.nx).code ≠ 0 then (rep (D.rootA p.d s.d s.nx).code, putD s (D.rootA p.d s.d s.nx).s) else
  (⟨0, (D.rootA p.d s.d s.nx).c, [], 0⟩, { putD s (D.rootA p.d s.d s.nx).s with nx := s.nx + 1, V := s.V ++ [(s.nx, List.replicate size.toNat 0)] })
def derA (p : Pm) (s : Sta) (c : Cp) (r : Int) : Rep × Sta := (⟨(D.childA p.d s.d c r).code, (D.childA p.d s.d c r).c, [], 0⟩, putD s (D.childA p.d s.d c r).s)
def awayA (all : Bool) (s : Sta) (c : Cp) : Rep × Sta := (rep (revA all s c).code, (revA all s c).s)
def valE (s : Sta) (given : Bool) (by_ : Int) (c : Cp) (need : Int) : Int := if given then L.givE s.X s.l need c else (L.namG (L.givE s.X s.l need) c.1 (s.D by_) 3).2
def readA (s : Sta) (given : Bool) (by_ : Int) (c : Cp) (off n : Int) : Rep × Sta :=
  if valE s given by_ c 1 ≠ 0 then (rep (valE s given by_ c 1), s) else (⟨S.rvE s.V c.1 off n, (0, 0, 0), S.rvL s.V c.1 off n, 0⟩, s)
def writeA (s : Sta) (given : Bool) (by_ : Int) (c : Cp) (off : Int) (D : List Nat) : Rep × Sta :=
  if valE s given by_ c 2 ≠ 0 then (rep (valE s given by_ c 2), s) else (rep (S.rvE s.V c.1 off (D.length : Int)), { s with V := S.wrV s.V c.1 off D })
def fitB (W : Int) (c : Cp) : Bool := decide (1 ≤ W) && decide (D.cutN (c.2.1 * B64 + c.2.2) W = c.2.1 * B64 + c.2.2)
def upd (D : Int → List Cp) (i : Int) (K : List Cp) : Int → List Cp := fun j => if j = i then K else D j
def addA (p : Pm) (s : Sta) (by_ : Int) (c : Cp) : Rep × Sta :=
  if fitB p.W c = false then (rep 18, s) else if p.lm ≤ ((s.D by_).length : Int) then (rep 14, s) else (rep 0, { s with D := upd s.D by_ (s.D by_ ++ [c]) })
def remA (s : Sta) (by_ : Int) (i : Int) : Rep × Sta :=
  if M.okI (s.D by_) i = false then (rep 15, s) else (rep 0, { s with D := upd s.D by_ ((s.D by_).take i.toNat ++ (s.D by_).drop (i.toNat + 1)) })
def spaA (p : Pm) (s : Sta) (by_ : Int) (G : List Int) : Rep × Sta :=
  if M.pickE p.lm (s.D by_) G ≠ 0 then (rep (M.pickE p.lm (s.D by_) G), s) else
  if P.fullP p.pm s.px s.P = true then (rep 13, s) else (⟨0, (0, 0, 0), [], s.px⟩, { s with px := s.px + 1, P := s.P ++ [s.px], ks := s.ks ++ [s.px], D := upd s.D s.px (M.pickL p.lm (s.D by_) G) })
def exiA (s : Sta) (by_ : Int) : Rep × Sta := (rep 0, { s with P := P.out s.P by_, ks := P.out s.ks by_ })
def cpO (c : R.Cl) : Cp := (c.obj, c.hi, c.lo)
def deedA (p : Pm) (s : Sta) (c : R.Cl) : Rep × Sta :=
  if c.op = 1 then creA p s c.size else if c.op = 2 then awayA true s (cpO c) else if c.op = 3 then derA p s (cpO c) c.rights else if c.op = 4 then awayA false s (cpO c)
  else if c.op = 5 then readA s c.given c.by_ (cpO c) c.off c.n else if c.op = 6 then writeA s c.given c.by_ (cpO c) c.off c.data else if c.op = 7 then addA p s c.by_ (cpO c)
  else if c.op = 8 then remA s c.by_ c.index else if c.op = 9 then spaA p s c.by_ c.gifts else exiA s c.by_
def doA (p : Pm) (s : Sta) (c : R.Cl) : Rep × Sta :=
  if R.fm c = false then (rep 1, s) else if s.P.contains c.by_ = false then (rep 2, s) else deedA p s c
end Go.Proofs.Ytffmodpgddecnaa.V
namespace Go.Proofs.Ytffmodpgddecnaa.V
open Go.RowKit
open Go.Proofs.Ytffmodpgddecnaa.H (B64 Cp)
set_option linter.unusedVariables false
abbrev rpV (r : Rep) (a : Option Addr) (n c : Nat) : Value := .agg #[.int .i64 r.code, .int .i64 r.cap.1, .int .u64 (r.cap.2.1 : Int), .int .u64 (r.cap.2.2 : Int), .slice a n c, .int .i64 r.num]
def rpL (r : Rep) (a : Option Addr) (n c : Nat) : List Value := [.int .i64 r.code, .int .i64 r.cap.1, .int .u64 (r.cap.2.1 : Int), .int .u64 (r.cap.2.2 : Int), .slice a n c, .int .i64 r.num]
abbrev z6 : Obj := .cells #[.int .i64 0, .int .i64 0, .int .u64 0, .int .u64 0, .slice none 0 0, .int .i64 0] 43
theorem st_arm {P : Program} {w w' : World} {ops : Array Oper} {rest : List Oper} {a : Act} {Q : Exit → Act → World → Prop} {tt : TypeId} {ps : String} {af} {ty : TypeId} {x y : Operand} {p v : Value}
    (hr : (Instr.storeAt ty p v).run P w = .ok () w') (hx : a.eval x = p) (hy : a.eval y = v) (h : wpList P ops Q rest a w') :
    wpList P ops Q ({ dst := none, op := .store ty x y, type := tt, pos := ps, after := af, guard := none } :: rest) a w := by
  refine wpList_plain rfl fun K hK => ?_
  unfold Oper.wp execOp
  simp only [hx, hy, hr, Sem.run_bind, Sem.run_pure, Result.andThen_ok]
  exact hK _ _ h
theorem info6 : (Try.prog.info? 43).map (·.size) = some 6 := by kernel_rfl
section
variable {w w' : World} {H : Hd} {s s' : Sta} {d d' : Nat → List K.Pu} {O : Nat → Nat → Prop} {N : Nat → Prop}
def Zr (w : World) (b : Nat) : Prop := w.there b 0 6
theorem Zr.new (w : World) : Zr (w.alloc z6) w.heap.size := (R.Bx.new w [.int .i64 0, .int .i64 0, .int .u64 0, .int .u64 0, .slice none 0 0, .int .i64 0] 43).there
theorem Zr.but {B : Nat → Prop} {b : Nat} (h : Zr w b) (hb : But B w w') (hn : ¬ B b) : Zr w' b := fun j hj => by
  obtain ⟨h1, h2⟩ := h j hj
  obtain ⟨v, hv⟩ := Option.isSome_iff_exists.1 h1
  have hk := hb.block b (World.block_lt_of_cell? _ _ hv) hn
  exact ⟨by rw [World.cell?_of_block hk]; exact h1, by rw [World.frozen?_of_block hk]; exact h2⟩
theorem Zr.later {b : Nat} (h : Zr w b) (hb : Below w.heap.size w w') : Zr w' b := h.but (B := fun _ => False) (But.of hb) (fun h => h)
theorem Zr.lt {b : Nat} (h : Zr w b) : b < w.heap.size := by
  obtain ⟨h1, _⟩ := h 0 (by decide)
  obtain ⟨v, hv⟩ := Option.isSome_iff_exists.1 h1
  exact World.block_lt_of_cell? _ _ hv
theorem rpL_one (r : Rep) (a : Option Addr) (n c : Nat) : ∀ v ∈ rpL r a n c, v.oneCell' = true := by simp [rpL, Value.oneCell']
theorem Zr.stL {b : Nat} {M : List Value} (h : Zr w b) (hl : M.length = 6) (h1 : ∀ v ∈ M, v.oneCell' = true) : (Instr.storeAt 43 (.pointer (some ⟨b, 0, none⟩)) (.agg M.toArray)).run Try.prog w = .ok () (w.setCells b 0 M) := by
  have := R.stc h hl h1
  simp [Instr.storeAt, storeVar, Instr.sureAddr, Value.cells, hl, this, Result.andThen]
theorem Zr.st {b : Nat} (h : Zr w b) (r : Rep) (a : Option Addr) (n c : Nat) : (Instr.storeAt 43 (.pointer (some ⟨b, 0, none⟩)) (rpV r a n c)).run Try.prog w = .ok () (w.setCells b 0 (rpL r a n c)) := h.stL (M := rpL r a n c) rfl (rpL_one r a n c)
theorem Zr.lv {b : Nat} (h : Zr w b) (r : Rep) (a : Option Addr) (n c : Nat) : (loadVar 43 ⟨b, 0, none⟩).run Try.prog (w.setCells b 0 (rpL r a n c)) = .ok (rpV r a n c) (w.setCells b 0 (rpL r a n c)) :=
  run_loadVar_mid (P := Try.prog) _ b 0 43 (rpL r a n c) _ (World.rangeAt_setCells_same _ _ _ _ h) Try.underlying43 rfl (by rw [info6]; rfl)
end
end Go.Proofs.Ytffmodpgddecnaa.V
namespace Go.Proofs.Ytffmodpgddecnaa.V
open Go.RowKit
open Go.Proofs.Ytffmodpgddecnaa.H (B64 Cp)
set_option linter.unusedVariables false
section
variable {w w' : World} {H : Hd} {s s' : Sta} {d d' : Nat → List K.Pu} {O : Nat → Nat → Prop} {N : Nat → Prop} {c : R.Cl} {dd gg : R.Sl} {b : Nat}
theorem KF.len32 (hf : KF H.p s) {i : Int} (hi : i ∈ s.P) : (s.D i).length ≤ 32 := by
  have h1 := hf.ln i hi
  have h2 := hf.lm.2
  omega
end
end Go.Proofs.Ytffmodpgddecnaa.V
namespace Go.Proofs.Ytffmodpgddecnaa.V
open Go.RowKit
open Go.Proofs.Ytffmodpgddecnaa.H (B64 Cp)
open Go.Proofs.Ytffmodpgddecnaa.M (wpAnyH_norm)
set_option linter.unusedVariables false
set_option linter.unusedSimpArgs false
section
variable {w w' : World} {H : Hd} {s s' : Sta} {d d' : Nat → List K.Pu} {O : Nat → Nat → Prop} {N : Nat → Prop} {c : R.Cl} {dd gg : R.Sl} {b : Nat}
theorem ldC (h : R.Bx w b (R.cC c dd gg)) : (Instr.loadAt 47 (.pointer (some ⟨b, 0, none⟩))).run Try.prog w = .ok (.agg (R.cC c dd gg).toArray) w := by
  have := R.lv41 h.range (by rfl)
  simp [Instr.loadAt, Instr.sureAddr, this]
theorem wp_store_known {P : Program} {w : World} {o : Oper} {a : Act} {K : Act → World → Prop} {Q : Exit → Act → World → Prop} (ty : TypeId) (x y : Operand) (ho : o.op = .store ty x y) (vx vy : Value) (hx : a.eval x = vx) (hy : a.eval y = vy) (w' : World)
    (hr : (Instr.storeAt ty vx vy).run P w = .ok () w') (h : K (a.put o.dst undef) w') : o.wp P a w K Q := by
  unfold Oper.wp execOp
  simp only [ho, hx, hy, hr, Sem.run_bind, Sem.run_pure, Result.andThen_ok]
  exact h
end
end Go.Proofs.Ytffmodpgddecnaa.V
namespace Go.Proofs.Ytffmodpgddecnaa.V
open Go.RowKit
open Go.Proofs.Ytffmodpgddecnaa.H (B64 Cp)
open Go.Proofs.Ytffmodpgddecnaa.M (wpAnyH_norm)
set_option linter.unusedVariables false
set_option linter.unusedSimpArgs false
section
variable {w w' : World} {H : Hd} {s s' : Sta} {d d' : Nat → List K.Pu} {O : Nat → Nat → Prop} {N : Nat → Prop} {c : R.Cl} {dd gg : R.Sl} {b : Nat}
theorem isV {hi lo : Nat} (h : hi < B64 ∧ lo < B64) : D.IsV (hi : Int) (lo : Int) (hi * B64 + lo) := D.IsV.of ⟨h.1, h.2, rfl⟩
set_option maxRecDepth 100000 in
set_option maxHeartbeats 2000000 in
theorem wfits_any (hi lo : Nat) (hw : hi < B64 ∧ lo < B64) (W : Int) (hW : 1 ≤ W) (w : World) : Calls Try.prog 60 #[.agg #[.int .u64 (hi : Int), .int .u64 (lo : Int)], .int .i64 W] w fun e w' => e = .returned (.bool (decide (D.cutN (hi * B64 + lo) W = hi * B64 + lo))) ∧ Below w.heap.size w w' := by
  have hB := below1 w (Obj.cells #[.int .u64 (hi : Int), .int .u64 (lo : Int)] 38)
  have HC := hid (fun U => D.cut_any (hi : Int) (lo : Int) (hi * B64 + lo) W U (isV hw))
  have HV := hid (isV hw)
  have HE := hid R.eqlW
  have hd : decide (1 ≤ W) = true := by simpa using hW
  have H0 : Hid (∀ U, Below (w.alloc (Obj.cells #[.int .u64 (hi : Int), .int .u64 (lo : Int)] 38)).heap.size (w.alloc (Obj.cells #[.int .u64 (hi : Int), .int .u64 (lo : Int)] 38)) U → U.cell? ⟨w.heap.size, 0, none⟩ = some (.int .u64 (hi : Int)) ∧ U.cell? ⟨w.heap.size, 1, none⟩ = some (.int .u64 (lo : Int))) := fun U hU => ⟨cell_later hU (by simp [go_sem]), cell_later hU (by simp [go_sem])⟩
  have HB := hid hB
  clear hB
  go_enter Try.func60, Try.ntmps60
  go_upto_region 1 with fail
  have heq := HE.out
  go_region_held3 (fun U => U.cell? ⟨w.heap.size, 0, none⟩ = some (.int .u64 (hi : Int)) ∧ U.cell? ⟨w.heap.size, 1, none⟩ = some (.int .u64 (lo : Int))) (first | exact H0.out _ (Below.refl _ _).drew | exact HE1.out) (first
    | (go_at_call 70; refine (HC.out _).mono ?_; rintro e w2 ⟨c1, d1, rfl, hv2, hb2⟩; have HV2 := hid hv2; have HB2 := hid (below_call ((below_call HB.out (Below.refl _ _).drew)) hb2); have HE1 := hid (H0.out w2 (below_call (Below.refl _ _).drew hb2)); clear hv2 hb2))
  go_wp2
  go_ret
  refine ⟨?_, HB2.out⟩
  have h1 := D.wEq_of HV2.out HV.out
  have h2 : R.wEq c1 d1 (hi : Int) (lo : Int) = D.wEq c1 d1 (hi : Int) (lo : Int) := by unfold R.wEq D.wEq; simp
  rw [← h1, ← h2]
  rfl
end
end Go.Proofs.Ytffmodpgddecnaa.V
namespace Go.Proofs.Ytffmodpgddecnaa.V
open Go.RowKit
open Go.Proofs.Ytffmodpgddecnaa.H (B64 Cp)
set_option linter.unusedVariables false
theorem has_any (a b : Int) (w : World) : Calls Try.prog 72 #[.int .i64 a, .int .i64 b] w fun e w' => e = .returned (.bool (partB b a)) ∧ w' = w := by
  have hp := hid (part_any b a)
  go_enter Try.func72, Try.ntmps72
  go_wp2_with (first | (go_at_call 73; refine (hp.out _).mono ?_; rintro e w9 ⟨rfl, hw9⟩; obtain rfl := hw9.symm; clear hw9))
  go_ret
  exact ⟨rfl, rfl⟩
end Go.Proofs.Ytffmodpgddecnaa.V
namespace Go.Proofs.Ytffmodpgddecnaa.V
open Go.RowKit
open Go.Proofs.Ytffmodpgddecnaa.H (B64 Cp)
set_option linter.unusedVariables false
end Go.Proofs.Ytffmodpgddecnaa.V
namespace Go.Proofs.Ytffmodpgddecnaa.V
open Go.RowKit
open Go.Proofs.Ytffmodpgddecnaa.H (B64 Cp)
set_option linter.unusedVariables false
set_option linter.unusedSimpArgs false
section
variable {p : Pm} {s : Sta} {d : Nat → List K.Pu}
theorem KF.put (h : KF p s) {a : D.Sta} (hf : D.Fit p.d a) (ho : ∀ o, hasO a.X a.l o = true ↔ hasO s.X s.l o = true) : KF p (putD s a) :=
  ⟨⟨hf.inv, hf.cnt, hf.len, fun o => (h.fit.obj o).trans (ho o).symm, h.fit.ids⟩, hf.le, h.cs, h.iv, h.ln, h.wd, h.lm, h.ks, h.nx⟩
end
end Go.Proofs.Ytffmodpgddecnaa.V
namespace Go.Proofs.Ytffmodpgddecnaa.V
open Go.RowKit
open Go.Proofs.Ytffmodpgddecnaa.H (B64 Cp)
set_option linter.unusedVariables false
set_option linter.unusedSimpArgs false
section
variable {w w' : World} {c : R.Cl} {dd gg : R.Sl}
theorem Bx.put {b : Nat} {L : List Value} (h : R.Bx w b L) (j : Nat) (hj : j < L.length) (v : Value) : R.Bx (w.setCell ⟨b, j, none⟩ v) b (L.set j v) := by
  have hl : Lies w ⟨b, j, none⟩ L[j] := ⟨h.cell j (List.getElem?_eq_getElem hj), by have := (h.there j hj).2; rwa [Nat.zero_add] at this⟩
  have hc : ∀ i u, (L.set j v)[i]? = some u → (w.setCell ⟨b, j, none⟩ v).cell? ⟨b, i, none⟩ = some u := fun i u hu => by
    by_cases e : i = j
    · subst e
      rw [List.getElem?_set_self hj] at hu
      cases hu
      exact hl.put.1
    · rw [List.getElem?_set_ne (by omega)] at hu
      exact D.cell_set_ne (h.cell i hu) (by omega)
  refine ⟨fun i u hu => by rw [Nat.zero_add]; exact hc i u hu, fun i hi => ?_⟩
  rw [List.length_set] at hi
  refine ⟨by rw [Nat.zero_add, hc i _ (List.getElem?_eq_getElem (by rw [List.length_set]; exact hi))]; rfl, ?_⟩
  have := R.frozen_setCells b ⟨b, 0 + i, none⟩ [v] j w
  exact this.trans (h.there i hi).2
theorem own_empty (w : World) (e : TypeId) : Own (w.alloc (Obj.cells #[] e)) w.heap.size e (some ⟨w.heap.size, 0, none⟩) 0 0 [] :=
  ⟨World.ownsRow_made (base := w.heap.size) (size := 1) (e := e) w #[] 0 (by simp) (by unfold maxLen; omega) (by simp), fun _ h => (by cases h)⟩
abbrev z13 : List Value := [.int .i64 0, .int .i64 0, .int .i64 0, .int .i64 0, .int .u64 0, .int .u64 0, .bool false, .int .i64 0, .int .i64 0, .int .i64 0, .slice none 0 0, .int .i64 0, .slice none 0 0]
theorem Bx.st45 {b : Nat} {L : List Value} (h : R.Bx w b L) (hl : L.length = 13) (c : R.Cl) (dd gg : R.Sl) : (Instr.storeAt 47 (.pointer (some ⟨b, 0, none⟩)) (.agg (R.cC c dd gg).toArray)).run Try.prog w = .ok () (w.setCells b 0 (R.cC c dd gg)) := by
  have h10 : (R.cC c dd gg).length = 13 := rfl
  have := R.stc (L := R.cC c dd gg) (show w.there b 0 13 by rw [← hl]; exact h.there) h10 (by simp [R.cC, Value.oneCell'])
  simp [Instr.storeAt, storeVar, Instr.sureAddr, Value.cells, h10, this, Result.andThen]
theorem R_row (h : Row w dd.a dd.n dd.c (S.u8s c.data)) (hs : ∀ x ∈ c.data, x < 256) : R.Row w dd.a dd.n dd.c c.data := ⟨by have := h.len; rwa [S.u8s_length] at this, h.cap_, h.none_, h.cells, hs⟩
structure Mine (w : World) (base : Nat) (c : R.Cl) (dd gg : R.Sl) : Prop where
  is : R.Is w c dd gg
  d : ∀ j, Blk dd.a j → base ≤ j ∧ j < w.heap.size
  g : ∀ j, Blk gg.a j → base ≤ j ∧ j < w.heap.size
set_option maxRecDepth 100000 in
set_option maxHeartbeats 2000000 in
theorem copied_any (h : R.Is w c dd gg) (hb1 : dd.n ≤ 140737488355328) (hb2 : gg.n * 8 ≤ 140737488355328) :
    Calls Try.prog 11 #[.agg (R.cC c dd gg).toArray] w fun e w' => ∃ d' g', e = .returned (.agg (R.cC c d' g').toArray) ∧ Mine w' w.heap.size c d' g' ∧ Below w.heap.size w w' := by
  obtain ⟨W, hW⟩ : ∃ W, W = (w.alloc (Obj.cells (R.cC c dd gg).toArray 47)).alloc (Obj.cells z13.toArray 47) := ⟨_, rfl⟩
  have HB : Hid (Below w.heap.size w W) := by rw [hW]; exact below2 _ _ _
  have HWs : Hid (W.heap.size = w.heap.size + 2) := by unfold Hid; rw [hW]; simp
  have hX : R.Bx W w.heap.size (R.cC c dd gg) := by rw [hW]; exact R.Bx.later (below1 _ _) (R.Bx.new w _ _)
  have hZ : R.Bx W (w.heap.size + 1) z13 := by
    rw [hW]
    have := R.Bx.new (w.alloc (Obj.cells (R.cC c dd gg).toArray 47)) z13 47
    rwa [World.size_alloc] at this
  have h2 := h.later HB.out
  have hr1 : Row W dd.a dd.n dd.c (S.u8s c.data) := ⟨by rw [S.u8s_length]; exact h2.data.len, h2.data.cap_, h2.data.none_, h2.data.cells, S.u8s_one _⟩
  have hr2 : Row W gg.a gg.n gg.c (ints c.gifts) := ⟨by unfold ints; rw [List.length_map]; exact h2.gifts.len, h2.gifts.cap_, h2.gifts.none_, h2.gifts.cells, by unfold ints; intro u hu; obtain ⟨x, _, rfl⟩ := List.mem_map.1 hu; rfl⟩
  have hB1 := below1 W (Obj.cells #[] 5)
  have hO1 := own_empty W 5
  obtain ⟨a1, c1, W2, hrun1, hO2, hG1⟩ := S.append_bytes hO1 (hr1.later hB1) hB1.size (by omega)
  rw [Nat.zero_add] at hrun1 hO2
  rw [List.nil_append] at hO2
  have hB2 : Below W.heap.size W W2 := But.below hB1 hG1.but (fun k hk => hO1.blk k hk)
  have hX2 := R.Bx.later hB2 hX
  have xD : W2.cell? ⟨w.heap.size, 10, none⟩ = some dd.v := hX2.cell 10 rfl
  have xF : W2.frozen? ⟨w.heap.size, 10, none⟩ = false := (hX2.there 10 (by simp [R.cC])).2
  have x10 : (W.alloc (Obj.cells #[] 5)).cell? ⟨w.heap.size, 10, none⟩ = some dd.v := (R.Bx.later hB1 hX).cell 10 rfl
  obtain ⟨W3, hW3⟩ : ∃ W3, W3 = W2.setCell ⟨w.heap.size, 10, none⟩ (.slice a1 dd.n c1) := ⟨_, rfl⟩
  have hX3 : R.Bx W3 w.heap.size (R.cC c ⟨a1, dd.n, c1⟩ gg) := by rw [hW3]; exact Bx.put hX2 10 (by simp [R.cC]) (.slice a1 dd.n c1)
  have hB3 : Below w.heap.size w W3 := by rw [hW3]; exact But.below (below_call HB.out hB2) (But.own (g := w.heap.size) (But.refl _ _) 10 _) (fun k e => by omega)
  have hS3 : W3.heap.size = W2.heap.size := by rw [hW3]; simp
  have hW2s := hB2.size
  have hO3 : Own W3 W.heap.size 5 a1 dd.n c1 (S.u8s c.data) := by rw [hW3]; exact Own.but (S := (· = w.heap.size)) (But.own (But.refl _ _) 10 _) hO2 (fun k hk e => by have := hO2.blk k hk; have := HWs.out; omega)
  have hB4 := below1 W3 (Obj.cells #[] 3)
  have hO4 := own_empty W3 3
  have hr3 : Row w gg.a gg.n gg.c (ints c.gifts) := ⟨by unfold ints; rw [List.length_map]; exact h.gifts.len, h.gifts.cap_, h.gifts.none_, h.gifts.cells, by unfold ints; intro u hu; obtain ⟨x, _, rfl⟩ := List.mem_map.1 hu; rfl⟩
  obtain ⟨a2, c2, W5, hrun2, hO5, hG2⟩ := append_ints hO4 ((hr3.later hB3).later hB4) hB4.size (by omega)
  rw [Nat.zero_add] at hrun2 hO5
  rw [List.nil_append] at hO5
  have hB5 : Below W3.heap.size W3 W5 := But.below hB4 hG2.but (fun k hk => hO4.blk k hk)
  have hX5 := R.Bx.later hB5 hX3
  have yD : W5.cell? ⟨w.heap.size, 12, none⟩ = some gg.v := hX5.cell 12 rfl
  have yF : W5.frozen? ⟨w.heap.size, 12, none⟩ = false := (hX5.there 12 (by simp [R.cC])).2
  have y12 : (W3.alloc (Obj.cells #[] 3)).cell? ⟨w.heap.size, 12, none⟩ = some gg.v := (R.Bx.later hB4 hX3).cell 12 rfl
  obtain ⟨W6, hW6⟩ : ∃ W6, W6 = W5.setCell ⟨w.heap.size, 12, none⟩ (.slice a2 gg.n c2) := ⟨_, rfl⟩
  have hX6 : R.Bx W6 w.heap.size (R.cC c ⟨a1, dd.n, c1⟩ ⟨a2, gg.n, c2⟩) := by rw [hW6]; exact Bx.put hX5 12 (by simp [R.cC]) (.slice a2 gg.n c2)
  have b6 : But (· = w.heap.size) W5 W6 := by rw [hW6]; exact But.own (But.refl _ _) 12 _
  have b3 : But (· = w.heap.size) W2 W3 := by rw [hW3]; exact But.own (But.refl _ _) 10 _
  have hZ6 : R.Bx W6 (w.heap.size + 1) z13 := R.Bx.but b6 (R.Bx.later hB5 (R.Bx.but b3 (R.Bx.later hB2 hZ) (by omega))) (by omega)
  have HLd := hid (ldC hX6)
  have HS9 := hid (Bx.st45 hZ6 rfl c ⟨a1, dd.n, c1⟩ ⟨a2, gg.n, c2⟩)
  obtain ⟨W7, hW7⟩ : ∃ W7, W7 = W6.setCells (w.heap.size + 1) 0 (R.cC c ⟨a1, dd.n, c1⟩ ⟨a2, gg.n, c2⟩) := ⟨_, rfl⟩
  have b7 : But (· = w.heap.size + 1) W6 W7 := by rw [hW7]; exact R.setCells_but (S := (· = w.heap.size + 1)) rfl _ 0 (But.refl _ _)
  have hX7 : R.Bx W7 (w.heap.size + 1) (R.cC c ⟨a1, dd.n, c1⟩ ⟨a2, gg.n, c2⟩) := by rw [hW7]; exact R.Bx.set hZ6 rfl
  have HL9 : Hid ((loadVar 47 ⟨w.heap.size + 1, 0, none⟩).run Try.prog W7 = .ok (.agg (R.cC c ⟨a1, dd.n, c1⟩ ⟨a2, gg.n, c2⟩).toArray) W7) := R.lv41 hX7.range (by rfl)
  rw [← hW7] at HS9
  have s5 := hB5.size
  have hO7 : Own W7 W.heap.size 5 a1 dd.n c1 (S.u8s c.data) := Own.but b7 (Own.but b6 (hO3.later hB5) (fun k hk e => by have := hO2.blk k hk; have := HWs.out; omega)) (fun k hk e => by have := hO2.blk k hk; have := HWs.out; omega)
  have hP7 : Own W7 W3.heap.size 3 a2 gg.n c2 (ints c.gifts) := Own.but b7 (Own.but b6 hO5 (fun k hk e => by have := hO5.blk k hk; have := HWs.out; omega)) (fun k hk e => by have := hO5.blk k hk; have := HWs.out; omega)
  have HMn : Hid (Mine W7 w.heap.size c ⟨a1, dd.n, c1⟩ ⟨a2, gg.n, c2⟩) := by
    refine ⟨⟨R_row (dd := ⟨a1, dd.n, c1⟩) hO7.read h.data.small, ?_, h.hi, h.lo⟩, fun j hj => ⟨by have := hO7.blk j hj; have := HWs.out; omega, hO7.lt j hj⟩, fun j hj => ⟨by have := hP7.blk j hj; have := HWs.out; omega, hP7.lt j hj⟩⟩
    have hr := hP7.read
    exact ⟨by have := hr.len; unfold ints at this; rwa [List.length_map] at this, hr.cap_, hr.none_, hr.cells⟩
  have HB7 : Hid (Below w.heap.size w W7) := But.below (But.below (below_call hB3 hB5) b6 (fun k e => by omega)) b7 (fun k e => by omega)
  have HW := hid hW
  have HW3 := hid hW3
  have HW6 := hid hW6
  have HR1 := hid hrun1
  have HR2 := hid hrun2
  clear h h2 hr1 hr2 hr3 hX hZ hB1 hO1 hO2 hG1 hB2 hX2 hX3 hB3 hS3 hW2s hO3 hB4 hO4 hO5 hG2 hB5 hX5 hX6 b6 b3 hZ6 hW7 b7 hX7 s5 hO7 hP7 hW hW3 hW6 hrun1 hrun2 hb1 hb2
  go_enter Try.func11, Try.ntmps11
  go_upto_region 1 with fail
  have hW := HW.out
  rw [← hW]
  clear hW
  go_upto_region 2 with (first | (at_builtin; refine wpList_append_known rfl _ _ 41 rfl _ _ rfl rfl _ W2 HR1.out ?_))
  rw [← HW3.out]
  clear x10 xD xF
  go_upto_region 3 with (first | (at_builtin; refine wpList_append_known rfl _ _ 45 rfl _ _ rfl rfl _ W5 HR2.out ?_))
  rw [← HW6.out]
  clear y12 yD yF
  go_wp2_with (first | ((with_reducible refine R.ld_arm HLd.out ?_ ?_); (· rfl)) | ((with_reducible refine st_arm HS9.out ?_ ?_ ?_); (· rfl); (· rfl)))
  exact bodyPost_ret (v := .agg (R.cC c ⟨a1, dd.n, c1⟩ ⟨a2, gg.n, c2⟩).toArray) (by simp [results, Try.results11, asAddr, Act.put, HL9.out]) rfl ⟨⟨a1, dd.n, c1⟩, ⟨a2, gg.n, c2⟩, rfl, HMn.out, HB7.out⟩
end
end Go.Proofs.Ytffmodpgddecnaa.V
namespace Go.Proofs.Ytffmodpgddecnaa.V
open Go.RowKit
open Go.Proofs.Ytffmodpgddecnaa.H (B64 Cp)
set_option linter.unusedVariables false
set_option linter.unusedSimpArgs false
section
variable {w w' : World} {H : Hd} {s s' : Sta} {d d' : Nat → List K.Pu} {N : Nat → Prop}
structure Ev where
  id : Int
  vs : List Value
  len : Nat
  a : Option Addr
  cap : Nat
def Ev.c (o : Ev) : List Value := [.int .i64 o.id, .slice o.a o.len o.cap]
def evs (Q : List Ev) : List Value := Q.flatMap Ev.c
structure Two (w : World) (base : Nat) (E ty k : Nat) (a : Option Addr) (n cap : Nat) (Q : List Ev) : Prop where
  row : Ow w base E 2 a n cap (evs Q)
  len : Q.length = n
  each : ∀ o ∈ Q, Ow w base ty k o.a o.len o.cap o.vs
  ap : Q.Pairwise (fun o p => ∀ j, Blk o.a j → ¬ Blk p.a j)
  top : ∀ o ∈ Q, ∀ j, Blk o.a j → ¬ Blk a j
variable {base E ty k : Nat} {a : Option Addr} {n cap : Nat} {Q : List Ev}
def Two.B (a : Option Addr) (Q : List Ev) (j : Nat) : Prop := Blk a j ∨ ∃ o ∈ Q, Blk o.a j
theorem Two.nil (w : World) (base E ty k : Nat) : Two w base E ty k none 0 0 [] := ⟨Ow.nil _ _ _ _, rfl, fun o h => (by cases h), List.Pairwise.nil, fun o h => (by cases h)⟩
theorem Two.but {S : Nat → Prop} (h : Two w base E ty k a n cap Q) (hb : But S w w') (hn : ∀ j, Two.B a Q j → ¬ S j) : Two w' base E ty k a n cap Q :=
  ⟨h.row.but hb (fun j hj => hn j (.inl hj)), h.len, fun o ho => (h.each o ho).but hb (fun j hj => hn j (.inr ⟨o, ho, hj⟩)), h.ap, h.top⟩
theorem Two.later (h : Two w base E ty k a n cap Q) (hb : Below w.heap.size w w') : Two w' base E ty k a n cap Q := h.but (S := fun _ => False) (But.of hb) (fun _ _ h => h)
theorem Two.mono (h : Two w base E ty k a n cap Q) {b : Nat} (hb : b ≤ base) : Two w b E ty k a n cap Q := ⟨h.row.mono hb, h.len, fun o ho => (h.each o ho).mono hb, h.ap, h.top⟩
theorem Two.blk (h : Two w base E ty k a n cap Q) : ∀ j, Two.B a Q j → base ≤ j ∧ j < w.heap.size := fun j hj => by
  rcases hj with hj | ⟨o, ho, hj⟩
  · exact h.row.blk j hj
  · exact (h.each o ho).blk j hj
theorem Two.snoc (t : TypeId) (z : Value) (by_ : Nat) (ht : Try.prog.underlying t = some (.slice E)) (hinf : (Try.prog.info? E).map (fun i => (i.zero, i.size, i.bytes)) = some (some z, 2, by_)) (hzs : z.cells.size = 2) (hby : 0 < by_) (hby2 : by_ ≤ 1024)
    {U U' : World} (h : Two U base E ty k a n cap Q) (hb : base ≤ U.heap.size) (hU : Below U.heap.size U U') (o : Ev) (ho : Ow U' U.heap.size ty k o.a o.len o.cap o.vs) (hn : n ≤ 2048) :
    ∃ a' c' w3, (Builtin.append_ #[t, t] t #[.slice a n cap, .slice (some ⟨U'.heap.size, 0, none⟩) 1 1]).run Try.prog (U'.alloc (Obj.cells o.c.toArray E)) = .ok (.slice a' (n + 1) c') w3 ∧ Two w3 base E ty k a' (n + 1) c' (Q ++ [o]) ∧ But (Blk a) U w3 := by
  have h' := h.later hU
  have hcr := Cr.lit U' E o.c (fun u hu => by simp only [Ev.c, List.mem_cons, List.not_mem_nil, or_false] at hu; rcases hu with rfl | rfl <;> rfl)
  obtain ⟨a', c', w3, hrun, hO3, hG0⟩ := append_k t E z 2 by_ ht hinf hzs (by omega) hby (h'.row.later (below1 U' (Obj.cells o.c.toArray E))) hcr (by have := hU.size; simp; omega) (by
    have : (n + 1) * by_ ≤ 2049 * 1024 := Nat.mul_le_mul (by omega) hby2
    omega)
  have hG := hG0.pre (below1 U' (Obj.cells o.c.toArray E))
  have hob := fun j hj => ho.blk j hj
  have hna : ∀ j, Blk a j → ¬ Blk o.a j := fun j h1 h2 => by have := (h.row.blk j h1).2; have := (hob j h2).1; omega
  refine ⟨a', c', w3, hrun, ⟨?_, by simp [h.len], ?_, ?_, ?_⟩, (But.of hU).trans hG.but⟩
  · have e : evs (Q ++ [o]) = evs Q ++ o.c := by simp [evs]
    rw [e]
    exact hO3
  · intro p hp
    rcases List.mem_append.1 hp with hp | hp
    · exact (h'.each p hp).but hG.but (fun j hj hj2 => h.top p hp j hj hj2)
    · rw [List.mem_singleton.1 hp]
      exact (ho.mono hb).but hG.but (fun j hj hj2 => hna j hj2 hj)
  · rw [List.pairwise_append]
    refine ⟨h.ap, List.pairwise_singleton _ _, fun p hp q hq j h1 h2 => ?_⟩
    rw [List.mem_singleton.1 hq] at h2
    have := ((h.each p hp).blk j h1).2
    have := (hob j h2).1
    omega
  · intro p hp j h1 h2
    rcases hG.on j h2 with h3 | h3
    · rcases List.mem_append.1 hp with hp | hp
      · exact h.top p hp j h1 h3
      · rw [List.mem_singleton.1 hp] at h1
        exact hna j h3 h1
    · rcases List.mem_append.1 hp with hp | hp
      · have := ((h.each p hp).blk j h1).2
        have := hU.size
        omega
      · rw [List.mem_singleton.1 hp] at h1
        have := (hob j h1).2
        omega
theorem info63 : (Try.prog.info? 60).map (fun i => (i.zero, i.size, i.bytes)) = some (some (.agg #[.int .i64 0, .slice none 0 0]), 2, 32) := by kernel_rfl
theorem info59 : (Try.prog.info? 65).map (fun i => (i.zero, i.size, i.bytes)) = some (some (.agg #[.int .i64 0, .slice none 0 0]), 2, 32) := by kernel_rfl
end
end Go.Proofs.Ytffmodpgddecnaa.V
namespace Go.Proofs.Ytffmodpgddecnaa.V
open Go.RowKit
open Go.Proofs.Ytffmodpgddecnaa.H (B64 Cp)
set_option linter.unusedVariables false
set_option linter.unusedSimpArgs false
section
variable {w w' : World} {H : Hd} {s s' : Sta} {d d' : Nat → List K.Pu} {N : Nat → Prop}
def Ev.key (o : Ev) : Int × List Value × Nat := (o.id, o.vs, o.len)
def obK (v : Int × List Nat) : Int × List Value × Nat := (v.1, S.u8s v.2, v.2.length)
end
end Go.Proofs.Ytffmodpgddecnaa.V
namespace Go.Proofs.Ytffmodpgddecnaa.V
open Go.RowKit
open Go.Proofs.Ytffmodpgddecnaa.H (B64 Cp)
set_option linter.unusedVariables false
set_option linter.unusedSimpArgs false
section
variable {w w' : World} {H : Hd} {s s' : Sta} {d d' : Nat → List K.Pu} {N : Nat → Prop}
theorem toks_at : ∀ (M : List Tok) (j : Nat) (t : Tok), M[j]? = some t → ∀ k, k < 5 → (toks M)[j * 5 + k]? = (encT t)[k]?
  | [], j, t, h, k, hk => by simp at h
  | x :: M, 0, t, h, k, hk => by
    simp only [List.getElem?_cons_zero, Option.some.injEq] at h
    subst h
    simp only [toks, List.flatMap_cons]
    rw [List.getElem?_append_left (by simp [encT]; omega)]
    simp
  | x :: M, j + 1, t, h, k, hk => by
    rw [List.getElem?_cons_succ] at h
    have := toks_at M j t h k hk
    simp only [toks, List.flatMap_cons] at this ⊢
    rw [List.getElem?_append_right (by simp [encT]; omega), ← this]
    congr 1
    simp [encT]
    omega
def shf (b : Nat) (t : Tok) : Tok := (t.1, t.2.1, if t.2.2 = -1 then -1 else t.2.2 + (b : Int))
def tkStep (mo : Nat) (X : List Tk) (l : Fo) (acc : List Tok) (id : Int) : List Tok := acc ++ (ofL mo X l id).map (shf acc.length)
def tkF (mo : Nat) (X : List Tk) (l : Fo) (ids : List Int) : List Tok := ids.foldl (tkStep mo X l) []
theorem ofL_len {m : Nat} {X : List Tk} {l : Fo} (h : Inv m X l) (o : Int) : (ofL m X l o).length ≤ m := by
  unfold ofL
  split
  · rw [ofF_len2]; exact G_len h.ok _ _
  · simp
theorem tkF_len {m : Nat} {X : List Tk} {l : Fo} (h : Inv m X l) : ∀ ids : List Int, (tkF m X l ids).length ≤ ids.length * m := by
  intro ids
  unfold tkF
  suffices ∀ (ids : List Int) (acc : List Tok), (ids.foldl (tkStep m X l) acc).length ≤ acc.length + ids.length * m by simpa using this ids []
  intro ids
  induction ids with
  | nil => simp
  | cons i ids ih =>
    intro acc
    rw [List.foldl_cons]
    refine Nat.le_trans (ih _) ?_
    have := ofL_len h i
    simp only [tkStep, List.length_append, List.length_map, List.length_cons, Nat.add_mul, Nat.one_mul]
    omega
end
end Go.Proofs.Ytffmodpgddecnaa.V
namespace Go.Proofs.Ytffmodpgddecnaa.V
open Go.RowKit
open Go.Proofs.Ytffmodpgddecnaa.H (B64 Cp)
open Go.Proofs.Ytffmodpgddecnaa.M (wpAnyH_norm)
set_option linter.unusedVariables false
set_option linter.unusedSimpArgs false
section
variable {w w' : World} {H : Hd} {s s' : Sta} {d d' : Nat → List K.Pu} {N : Nat → Prop}
structure Ps where
  O : List (Int × List Nat)
  T : List Tok
  P : List (Int × List Cp)
  nx : Int
  px : Int
  t : Int
def psOf (mo : Nat) (s : Sta) : Ps := ⟨s.V, tkF mo s.X s.l (s.V.map Prod.fst), s.P.map (fun i => (i, s.D i)), s.nx, s.px, (s.t : Int)⟩
def plK (x : Int × List Cp) : Int × List Value × Nat := (x.1, caps x.2, x.2.length)
abbrev stV (a1 : Option Addr) (n1 c1 : Nat) (a2 : Option Addr) (n2 c2 : Nat) (a3 : Option Addr) (n3 c3 : Nat) (x y z : Int) : Value := .agg #[.slice a1 n1 c1, .slice a2 n2 c2, .slice a3 n3 c3, .int .i64 x, .int .i64 y, .int .i64 z]
def stM (a1 : Option Addr) (n1 c1 : Nat) (a2 : Option Addr) (n2 c2 : Nat) (a3 : Option Addr) (n3 c3 : Nat) (x y z : Int) : List Value := [.slice a1 n1 c1, .slice a2 n2 c2, .slice a3 n3 c3, .int .i64 x, .int .i64 y, .int .i64 z]
structure Tells (w : World) (base : Nat) (p : Ps) (a1 : Option Addr) (c1 : Nat) (Q1 : List Ev) (a2 : Option Addr) (c2 : Nat) (a3 : Option Addr) (c3 : Nat) (Q3 : List Ev) : Prop where
  os : Two w base 60 5 1 a1 p.O.length c1 Q1
  ok : Q1.map Ev.key = p.O.map obK
  ts : Ow w base 62 5 a2 p.T.length c2 (toks p.T)
  ps : Two w base 65 40 3 a3 p.P.length c3 Q3
  pk : Q3.map Ev.key = p.P.map plK
  s12 : ∀ j, Two.B a1 Q1 j → ¬ Blk a2 j
  s13 : ∀ j, Two.B a1 Q1 j → ¬ Two.B a3 Q3 j
  s23 : ∀ j, Blk a2 j → ¬ Two.B a3 Q3 j
abbrev z53 : Obj := .cells #[.slice none 0 0, .slice none 0 0, .slice none 0 0, .int .i64 0, .int .i64 0, .int .i64 0] 56
theorem info53 : (Try.prog.info? 56).map (·.size) = some 6 := by kernel_rfl
theorem Zr.new53 (w : World) : Zr (w.alloc z53) w.heap.size := (R.Bx.new w [.slice none 0 0, .slice none 0 0, .slice none 0 0, .int .i64 0, .int .i64 0, .int .i64 0] 56).there
theorem Zr.stT {b : Nat} {M : List Value} (h : Zr w b) (hl : M.length = 6) (h1 : ∀ v ∈ M, v.oneCell' = true) : (Instr.storeAt 56 (.pointer (some ⟨b, 0, none⟩)) (.agg M.toArray)).run Try.prog w = .ok () (w.setCells b 0 M) := by
  have := R.stc h hl h1
  simp [Instr.storeAt, storeVar, Instr.sureAddr, Value.cells, hl, this, Result.andThen]
theorem Zr.st53 {b : Nat} (h : Zr w b) (a1 : Option Addr) (n1 c1 : Nat) (a2 : Option Addr) (n2 c2 : Nat) (a3 : Option Addr) (n3 c3 : Nat) (x y z : Int) : (Instr.storeAt 56 (.pointer (some ⟨b, 0, none⟩)) (stV a1 n1 c1 a2 n2 c2 a3 n3 c3 x y z)).run Try.prog w = .ok () (w.setCells b 0 (stM a1 n1 c1 a2 n2 c2 a3 n3 c3 x y z)) := h.stT (M := stM a1 n1 c1 a2 n2 c2 a3 n3 c3 x y z) rfl (by simp [stM, Value.oneCell'])
theorem Zr.lv53 {b : Nat} (h : Zr w b) (a1 : Option Addr) (n1 c1 : Nat) (a2 : Option Addr) (n2 c2 : Nat) (a3 : Option Addr) (n3 c3 : Nat) (x y z : Int) : (loadVar 56 ⟨b, 0, none⟩).run Try.prog (w.setCells b 0 (stM a1 n1 c1 a2 n2 c2 a3 n3 c3 x y z)) = .ok (stV a1 n1 c1 a2 n2 c2 a3 n3 c3 x y z) (w.setCells b 0 (stM a1 n1 c1 a2 n2 c2 a3 n3 c3 x y z)) :=
  run_loadVar_mid (P := Try.prog) _ b 0 56 (stM a1 n1 c1 a2 n2 c2 a3 n3 c3 x y z) _ (World.rangeAt_setCells_same _ _ _ _ h) Try.underlying56 rfl (by rw [info53]; rfl)
theorem Tells.but {S : Nat → Prop} {base : Nat} {p : Ps} {a1 c1 Q1 a2 c2 a3 c3 Q3} (h : Tells w base p a1 c1 Q1 a2 c2 a3 c3 Q3) (hb : But S w w') (hS : ∀ j, base ≤ j → j < w.heap.size → ¬ S j) : Tells w' base p a1 c1 Q1 a2 c2 a3 c3 Q3 :=
  ⟨h.os.but hb (fun j hj => hS j (h.os.blk j hj).1 (h.os.blk j hj).2), h.ok, h.ts.but hb (fun j hj => hS j (h.ts.blk j hj).1 (h.ts.blk j hj).2), h.ps.but hb (fun j hj => hS j (h.ps.blk j hj).1 (h.ps.blk j hj).2), h.pk, h.s12, h.s13, h.s23⟩
theorem Tells.later {base : Nat} {p : Ps} {a1 c1 Q1 a2 c2 a3 c3 Q3} (h : Tells w base p a1 c1 Q1 a2 c2 a3 c3 Q3) (hb : Below w.heap.size w w') : Tells w' base p a1 c1 Q1 a2 c2 a3 c3 Q3 := h.but (S := fun _ => False) (But.of hb) (fun _ _ _ h => h)
theorem Tells.mono {base b : Nat} {p : Ps} {a1 c1 Q1 a2 c2 a3 c3 Q3} (h : Tells w base p a1 c1 Q1 a2 c2 a3 c3 Q3) (hb : b ≤ base) : Tells w b p a1 c1 Q1 a2 c2 a3 c3 Q3 := ⟨h.os.mono hb, h.ok, h.ts.mono hb, h.ps.mono hb, h.pk, h.s12, h.s13, h.s23⟩
def StRets (w : World) (p : Ps) (e : Ending) (w' : World) : Prop :=
  ∃ a1 c1 Q1 a2 c2 a3 c3 Q3, e = .returned (stV a1 p.O.length c1 a2 p.T.length c2 a3 p.P.length c3 p.nx p.px p.t) ∧ Tells w' w.heap.size p a1 c1 Q1 a2 c2 a3 c3 Q3 ∧ Below w.heap.size w w'
end
end Go.Proofs.Ytffmodpgddecnaa.V
namespace Go.Proofs.Ytffmodpgddecnaa.V
open Go.RowKit
open Go.Proofs.Ytffmodpgddecnaa.H (B64 Cp)
set_option linter.unusedVariables false
set_option linter.unusedSimpArgs false
section
variable {w w' : World}
structure Cf where
  W : Int
  o : Int
  p : Int
  m : Int
  q : Int
  r : Int
  l : Int
  s : Int
  y : Int
  k : Int
def Cf.L (c : Cf) : List Value := [.int .i64 c.W, .int .i64 c.o, .int .i64 c.p, .int .i64 c.m, .int .i64 c.q, .int .i64 c.r, .int .i64 c.l, .int .i64 c.s, .int .i64 c.y, .int .i64 c.k]
abbrev Cf.v (c : Cf) : Value := .agg c.L.toArray
def inW (n a b : Int) : Bool := decide (a ≤ n) && decide (n ≤ b)
theorem inW_iff {n a b : Int} : inW n a b = true ↔ a ≤ n ∧ n ≤ b := by unfold inW; simp
def Cf.may (c : Cf) : Bool := inW c.W 1 128 && inW c.o 1 64 && inW c.p 1 256 && inW c.m 1 256 && inW c.q 1 256 && inW c.r 1 32 && inW c.l 1 32 && inW c.s 0 16 && inW c.y 1 4 && inW c.k 0 64
theorem Cf.may_iff {c : Cf} : c.may = true ↔ (1 ≤ c.W ∧ c.W ≤ 128) ∧ (1 ≤ c.o ∧ c.o ≤ 64) ∧ (1 ≤ c.p ∧ c.p ≤ 256) ∧ (1 ≤ c.m ∧ c.m ≤ 256) ∧ (1 ≤ c.q ∧ c.q ≤ 256) ∧ (1 ≤ c.r ∧ c.r ≤ 32) ∧ (1 ≤ c.l ∧ c.l ≤ 32) ∧ (0 ≤ c.s ∧ c.s ≤ 16) ∧ (1 ≤ c.y ∧ c.y ≤ 4) ∧ (0 ≤ c.k ∧ c.k ≤ 64) := by
  unfold Cf.may
  simp only [Bool.and_eq_true, inW_iff]
  omega
end
end Go.Proofs.Ytffmodpgddecnaa.V
namespace Go.Proofs.Ytffmodpgddecnaa.V
open Go.RowKit
open Go.Proofs.Ytffmodpgddecnaa.H (B64 Cp)
set_option linter.unusedVariables false
set_option linter.unusedSimpArgs false
section
variable {w w' : World}
def Cf.pm (c : Cf) (n : Nat) (f : Nat → Nat) : Pm := ⟨c.m.toNat, c.q, n, f, c.o.toNat, c.p.toNat, c.r, c.l, c.W⟩
end
end Go.Proofs.Ytffmodpgddecnaa.V
namespace Go.Proofs.Ytffmodpgddecnaa.V
open Go.RowKit
open Go.Proofs.Ytffmodpgddecnaa.H (B64 Cp)
set_option linter.unusedVariables false
set_option linter.unusedSimpArgs false
section
variable {w w' : World}
theorem info31 : (Try.prog.info? 38).map (fun i => (i.zero, i.size, i.bytes)) = some (some (.agg #[.int .u64 0, .int .u64 0]), 2, 16) := by kernel_rfl
theorem ow_empty (w : World) (e : TypeId) (k : Nat) : Ow (w.alloc (Obj.cells #[] e)) w.heap.size e k (some ⟨w.heap.size, 0, none⟩) 0 0 [] :=
  World.ownsRow_made (base := w.heap.size) (size := k) (e := e) w #[] 0 (by simp) (by unfold maxLen; omega) (by simp)
theorem wvs_take (f : Nat → Nat) (n m : Nat) (h : m ≤ n) : (D.wvs f n).take (m * 2) = D.wvs f m := by
  have e : D.wvs f n = D.wvs f m ++ (D.wvs (fun i => f (m + i)) (n - m)) := by
    unfold D.wvs
    rw [show n = m + (n - m) by omega, List.range_add, List.flatMap_append, List.flatMap_map]
    simp
  rw [e, List.take_left' (D.wvs_length f m)]
theorem Ws.cr {a : Option Addr} {n cap : Nat} {f : Nat → Nat} (h : D.Ws w a n cap f) : Cr w 2 a n cap (D.wvs f n) :=
  ⟨D.wvs_length f n, h.none_, h.cells, fun u hu => by
    unfold D.wvs at hu
    obtain ⟨i, _, hi⟩ := List.mem_flatMap.1 hu
    simp only [D.wcs, List.mem_cons, List.not_mem_nil, or_false] at hi
    rcases hi with rfl | rfl <;> rfl⟩
theorem words_app {a : Option Addr} {n cap : Nat} {f : Nat → Nat} (h : D.Ws w a n cap f) (hn : n ≤ 1048576) :
    ∃ a' c' w3, (Builtin.append_ #[24, 24] 24 #[.slice (some ⟨w.heap.size, 0, none⟩) 0 0, .slice a n cap]).run Try.prog (w.alloc (Obj.cells #[] 38)) = .ok (.slice a' n c') w3 ∧ D.Ws w3 a' n c' f ∧ (∀ j, Blk a' j → w.heap.size ≤ j ∧ j < w3.heap.size) ∧ Below w.heap.size w w3 := by
  have hB := below1 w (Obj.cells #[] 38)
  have hO := ow_empty w 38 2
  obtain ⟨a', c', w3, hrun, hO3, hG⟩ := append_k 24 38 _ 2 16 Try.underlying24 info31 rfl (by omega) (by omega) hO (Ws.cr (h.later hB)) hB.size (by omega)
  rw [Nat.zero_add] at hrun hO3
  rw [List.nil_append] at hO3
  have hO3 : Ow w3 w.heap.size 38 2 a' n c' (D.wvs f n) := hO3
  refine ⟨a', c', w3, hrun, ⟨?_, ?_, ?_, h.small⟩, fun j hj => hO3.blk j hj, But.below hB hG.but (fun k hk => (hO.blk k hk).1)⟩
  · rcases hO3.form with ⟨_, h1, h2⟩ | ⟨g, _, _, h3⟩
    · omega
    · exact h3
  · intro e
    rcases hO3.form with ⟨_, h1, h2⟩ | ⟨g, h1, _⟩
    · exact ⟨h1, h2⟩
    · rw [h1] at e; cases e
  · intro x hx j u hu
    by_cases h0 : 0 < n
    · obtain ⟨b, h1, h2⟩ := Ow.at_ hO3 h0
      rw [h1] at hx
      cases hx
      rw [addr_add0]
      exact h2 j u hu
    · have : n = 0 := by omega
      subst this
      simp [D.wvs] at hu
set_option maxRecDepth 100000 in
set_option maxHeartbeats 1000000 in
theorem words_any {a : Option Addr} {n cap : Nat} {f : Nat → Nat} (h : D.Ws w a n cap f) : Calls Try.prog 13 #[.slice a n cap] w fun e w' => ∃ a' m c', e = .returned (.slice a' m c') ∧ m ≤ 4096 ∧ D.Ws w' a' m c' f ∧ (∀ j, Blk a' j → w.heap.size ≤ j ∧ j < w'.heap.size) ∧ Below w.heap.size w w' := by
  by_cases hn : n ≤ 4096
  · have hd : decide ((n : Int) > 4096) = false := decide_eq_false (by omega)
    have hd2 : decide ((4096 : Int) < (n : Int)) = false := decide_eq_false (by omega)
    obtain ⟨a', c', w3, hrun, hW, hb, hB⟩ := words_app h (by omega)
    have HR := hid hrun
    have HP := hid (And.intro hn (And.intro hW (And.intro hb hB)))
    clear h hrun hW hb hB hn
    go_enter Try.func13, Try.ntmps13
    go_wp2_with (first | (at_builtin; refine wpList_append_known rfl _ _ 24 rfl _ _ rfl rfl _ w3 HR.out ?_))
    exact bodyPost_ret (v := .slice a' n c') (by simp [results, Try.results13, go_sem]) rfl ⟨a', n, c', rfl, HP.out⟩
  · have hd : decide ((n : Int) > 4096) = true := decide_eq_true (by omega)
    have hd2 : decide ((4096 : Int) < (n : Int)) = true := decide_eq_true (by omega)
    have hc := h.cap_
    cases a with
    | none => have := h.none_ rfl; omega
    | some x =>
      have h2 : D.Ws w (some x) 4096 cap f := ⟨by omega, fun e => (by cases e), fun y hy j u hu => h.cells y hy j u (by rw [← wvs_take f n 4096 (by omega)] at hu; rw [List.getElem?_take] at hu; split at hu; exact hu; cases hu), h.small⟩
      obtain ⟨a', c', w3, hrun, hW, hb, hB⟩ := words_app h2 (by omega)
      have HR := hid hrun
      have HP := hid (And.intro hW (And.intro hb hB))
      clear h h2 hrun hW hb hB
      go_enter Try.func13, Try.ntmps13
      go_upto_region 3 with fail
      go_wp2_with (first | (at_builtin; refine wpList_append_known rfl _ _ 24 rfl _ _ rfl rfl _ w3 HR.out ?_))
      exact bodyPost_ret (v := .slice a' 4096 c') (by simp [results, Try.results13, go_sem]) rfl ⟨a', 4096, c', rfl, Nat.le_refl _, HP.out⟩
end
end Go.Proofs.Ytffmodpgddecnaa.V
