import Derived.Test.YtciidjhadijhdaaT6I
namespace Go.Proofs.Ytciidjhadijhdaa.H.I
open Go.RowKit
set_option linter.unusedVariables false

/-- A table with its places: E are the pairs that are there. -/
structure Sl (w : World) (g gb kn mo N : Nat) (L : List Q) (sp : Nat) (E : List (Cp × Int)) : Prop where
  tm : Tm w g gb kn mo (E.length : Int) (sp : Int) N L
  kinds : ∀ (i : Nat) (p : Q), L[i]? = some p → p.k = 0 ∨ p.k = 1 ∨ p.k = 2
  way : Way (hm kn N) (· ≠ 0) L
  perm : (ents L).Perm E
  nodup : (E.map Prod.fst).Nodup
  free : fre L = sp
  most : E.length ≤ mo
  m1 : 1 ≤ mo
  m2 : 2 * mo ≤ N
/-- A table: E are the pairs that are there. -/
def Tb (w : World) (g gb kn mo N : Nat) (E : List (Cp × Int)) : Prop := ∃ L sp, Sl w g gb kn mo N L sp E
theorem Sl.but {S : Nat → Prop} {w w' : World} {g gb kn mo N : Nat} {L : List Q} {sp : Nat} {E : List (Cp × Int)} (hb : But S w w') (h : Sl w g gb kn mo N L sp E) (h1 : ¬ S g) (h2 : ¬ S gb) : Sl w' g gb kn mo N L sp E :=
  ⟨h.tm.but hb h1 h2, h.kinds, h.way, h.perm, h.nodup, h.free, h.most, h.m1, h.m2⟩
theorem Sl.later {w w' : World} {g gb kn mo N : Nat} {L : List Q} {sp : Nat} {E : List (Cp × Int)} (hb : Below w.heap.size w w') (h : Sl w g gb kn mo N L sp E) : Sl w' g gb kn mo N L sp E := h.but (S := fun _ => False) (But.of hb) (fun h => h) (fun h => h)
theorem Sl.alloc {w : World} {g gb kn mo N : Nat} {L : List Q} {sp : Nat} {E : List (Cp × Int)} (h : Sl w g gb kn mo N L sp E) (o : Obj) : Sl (w.alloc o) g gb kn mo N L sp E := h.later (below1 _ _)
theorem Tb.but {S : Nat → Prop} {w w' : World} {g gb kn mo N : Nat} {E : List (Cp × Int)} (hb : But S w w') (h : Tb w g gb kn mo N E) (h1 : ¬ S g) (h2 : ¬ S gb) : Tb w' g gb kn mo N E := by
  obtain ⟨L, sp, h⟩ := h; exact ⟨L, sp, h.but hb h1 h2⟩
theorem Tb.later {w w' : World} {g gb kn mo N : Nat} {E : List (Cp × Int)} (hb : Below w.heap.size w w') (h : Tb w g gb kn mo N E) : Tb w' g gb kn mo N E := by
  obtain ⟨L, sp, h⟩ := h; exact ⟨L, sp, h.later hb⟩
theorem Tb.alloc {w : World} {g gb kn mo N : Nat} {E : List (Cp × Int)} (h : Tb w g gb kn mo N E) (o : Obj) : Tb (w.alloc o) g gb kn mo N E := h.later (below1 _ _)
theorem Tb.lt {w : World} {g gb kn mo N : Nat} {E : List (Cp × Int)} (h : Tb w g gb kn mo N E) : g < w.heap.size := by obtain ⟨L, sp, h⟩ := h; exact h.tm.lt
theorem Tb.lt2 {w : World} {g gb kn mo N : Nat} {E : List (Cp × Int)} (h : Tb w g gb kn mo N E) : gb < w.heap.size := by obtain ⟨L, sp, h⟩ := h; exact h.tm.lt2
theorem Tb.nodup {w : World} {g gb kn mo N : Nat} {E : List (Cp × Int)} (h : Tb w g gb kn mo N E) : (E.map Prod.fst).Nodup := by obtain ⟨L, sp, h⟩ := h; exact h.nodup
theorem Tb.most {w : World} {g gb kn mo N : Nat} {E : List (Cp × Int)} (h : Tb w g gb kn mo N E) : E.length ≤ mo := by obtain ⟨L, sp, h⟩ := h; exact h.most
theorem Tb.small {w : World} {g gb kn mo N : Nat} {E : List (Cp × Int)} (h : Tb w g gb kn mo N E) : mo ≤ 512 := by obtain ⟨L, sp, h⟩ := h; have := h.tm.big; have := h.m2; omega
theorem Tb.ok {w : World} {g gb kn mo N : Nat} {E : List (Cp × Int)} (h : Tb w g gb kn mo N E) {c : Cp} (hc : c ∈ E.map Prod.fst) : c.2.1 < B64 ∧ c.2.2 < B64 := by
  obtain ⟨L, sp, h⟩ := h
  obtain ⟨y, hy, rfl⟩ := List.mem_map.1 hc
  obtain ⟨i, p, hp, hk, rfl⟩ := mem_ents ((h.perm.mem_iff).2 hy) h.kinds
  exact h.tm.ok i p hp
theorem Tb.perm {w : World} {g gb kn mo N : Nat} {E E' : List (Cp × Int)} (h : Tb w g gb kn mo N E) (hp : E.Perm E') : Tb w g gb kn mo N E' := by
  obtain ⟨L, sp, h⟩ := h
  have hl := hp.length_eq
  exact ⟨L, sp, by rw [← hl]; exact h.tm, h.kinds, h.way, h.perm.trans hp, (hp.map _).nodup_iff.1 h.nodup, h.free, by rw [← hl]; exact h.most, h.m1, h.m2⟩

/-- Which pairs a place's key stands for. -/
theorem Sl.mem {w : World} {g gb kn mo N : Nat} {L : List Q} {sp : Nat} {E : List (Cp × Int)} (h : Sl w g gb kn mo N L sp E) {i : Nat} {p : Q} (hp : L[i]? = some p) (hk : p.k = 1) : (p.c, p.v) ∈ E := h.perm.mem_iff.1 (ents_mem hp hk)
theorem Sl.there {w : World} {g gb kn mo N : Nat} {L : List Q} {sp : Nat} {E : List (Cp × Int)} (h : Sl w g gb kn mo N L sp E) {c : Cp} (hc : c ∈ E.map Prod.fst) : ∃ (i : Nat) (p : Q), L[i]? = some p ∧ p.k = 1 ∧ p.c = c := by
  obtain ⟨y, hy, rfl⟩ := List.mem_map.1 hc
  obtain ⟨i, p, hp, hk, rfl⟩ := mem_ents (h.perm.mem_iff.2 hy) h.kinds
  exact ⟨i, p, hp, hk, rfl⟩
theorem find_there {w : World} {g gb kn mo N : Nat} {L : List Q} {sp : Nat} {E : List (Cp × Int)} (h : Sl w g gb kn mo N L sp E) (o : Int) (hi lo : Nat) (h1 : hi < B64) (h2 : lo < B64) (hc : (o, hi, lo) ∈ E.map Prod.fst) :
    Calls Try.prog 77 #[.pointer (some ⟨g, 0, none⟩), .agg #[.int .i64 o, .int .u64 (hi : Int), .int .u64 (lo : Int)]] w fun e w' => ∃ (i : Nat) (v : Int), L[i]? = some ⟨1, (o, hi, lo), v⟩ ∧ e = .returned (.tuple #[.int .i64 (i : Int), .bool true]) ∧ Below w.heap.size w w' := by
  refine (find_any h.tm h.way o hi lo h1 h2).mono ?_
  rintro e w' ⟨⟨i, p, hp, hk, hpc, he⟩ | ⟨hn, he⟩, hb⟩
  · refine ⟨i, p.v, ?_, he, hb⟩
    rw [hp, ← hk, ← hpc]
  · obtain ⟨i, p, hp, hk, hpc⟩ := h.there hc
    exact absurd hpc (hn i p hp hk)
theorem find_none {w : World} {g gb kn mo N : Nat} {L : List Q} {sp : Nat} {E : List (Cp × Int)} (h : Sl w g gb kn mo N L sp E) (o : Int) (hi lo : Nat) (h1 : hi < B64) (h2 : lo < B64) (hc : (o, hi, lo) ∉ E.map Prod.fst) :
    Calls Try.prog 77 #[.pointer (some ⟨g, 0, none⟩), .agg #[.int .i64 o, .int .u64 (hi : Int), .int .u64 (lo : Int)]] w fun e w' => e = .returned (.tuple #[.int .i64 0, .bool false]) ∧ Below w.heap.size w w' := by
  refine (find_any h.tm h.way o hi lo h1 h2).mono ?_
  rintro e w' ⟨⟨i, p, hp, hk, hpc, he⟩ | ⟨hn, he⟩, hb⟩
  · exact absurd (List.mem_map.2 ⟨_, h.mem hp hk, hpc⟩) hc
  · exact ⟨he, hb⟩
set_option maxRecDepth 100000 in
set_option maxHeartbeats 1000000 in
theorem get_none {w : World} {g gb kn mo N : Nat} {E : List (Cp × Int)} (h : Tb w g gb kn mo N E) (o : Int) (hi lo : Nat) (h1 : hi < B64) (h2 : lo < B64) (hc : (o, hi, lo) ∉ E.map Prod.fst) :
    Calls Try.prog 75 #[.pointer (some ⟨g, 0, none⟩), .agg #[.int .i64 o, .int .u64 (hi : Int), .int .u64 (lo : Int)]] w fun e w' => e = .returned (.tuple #[.int .i64 0, .bool false]) ∧ Below w.heap.size w w' := by
  obtain ⟨L, sp, h⟩ := h
  have HH := hid h
  have HC := hid hc
  clear h hc
  go_enter Try.func75, Try.ntmps75
  go_wp2_with (first | (go_at_call 77; refine (find_none (HH.out.alloc _) o hi lo h1 h2 HC.out).mono ?_; rintro e w2 ⟨rfl, hb2⟩; have HB2 := hid (below_call (below1 _ _) hb2); clear hb2))
  exact bodyPost_ret (v := .tuple #[.int .i64 0, .bool false]) (by simp [results, Try.results75, go_sem]) rfl ⟨rfl, HB2.out⟩
/-- A pair goes. -/
theorem Sl.drop {w : World} {g gb kn mo N : Nat} {L : List Q} {sp : Nat} {E E' : List (Cp × Int)} (h : Sl w g gb kn mo N L sp E) {i : Nat} {c : Cp} {v : Int} (hp : L[i]? = some ⟨1, c, v⟩) (z : Int) {n : Int} (hn : n = (E.length : Int) - 1) (hE : E.Perm ((c, v) :: E')) :
    Sl ((setP w gb (i * 5) ⟨2, (0, 0, 0), z⟩).setCell ⟨g, 3, none⟩ (.int .i64 n)) g gb kn mo N (L.set i ⟨2, (0, 0, 0), z⟩) sp E' := by
  have hl := hE.length_eq
  rw [List.length_cons] at hl
  have hn' : n = (E'.length : Int) := by omega
  have hnd := (hE.map Prod.fst).nodup_iff.1 h.nodup
  rw [List.map_cons, List.nodup_cons] at hnd
  have hm := h.most
  refine ⟨?_, ?_, ?_, ?_, hnd.2, ?_, by omega, h.m1, h.m2⟩
  · have t := (h.tm.set hp ⟨2, (0, 0, 0), z⟩ ⟨show (0 : Nat) < B64 by decide, show (0 : Nat) < B64 by decide⟩).live n
    rw [← hn']
    exact t
  · intro j x hx
    rcases get_set hx with ⟨rfl, rfl⟩ | ⟨_, h3⟩
    · exact .inr (.inr rfl)
    · exact h.kinds _ _ h3
  · exact h.way.set (fun _ _ _ => show (2 : Int) ≠ 0 by decide) (fun hx => absurd hx (show ¬ (2 : Int) = 1 by decide))
  · have hd := ents_del (x := (⟨2, (0, 0, 0), z⟩ : Q)) (y := (c, v)) hp (by simp [ent]) (by simp [ent])
    exact (hd.symm.trans (h.perm.trans hE)).cons_inv
  · rw [fre_same hp (show (1 : Int) ≠ 0 by decide) (show (2 : Int) ≠ 0 by decide)]
    exact h.free
set_option maxRecDepth 100000 in
set_option maxHeartbeats 1000000 in
theorem get_ok {w : World} {g gb kn mo N : Nat} {E : List (Cp × Int)} (h : Tb w g gb kn mo N E) (o : Int) (hi lo : Nat) (h1 : hi < B64) (h2 : lo < B64) (v : Int) (hc : ((o, hi, lo), v) ∈ E) :
    Calls Try.prog 75 #[.pointer (some ⟨g, 0, none⟩), .agg #[.int .i64 o, .int .u64 (hi : Int), .int .u64 (lo : Int)]] w fun e w' => e = .returned (.tuple #[.int .i64 v, .bool true]) ∧ Below w.heap.size w w' := by
  obtain ⟨L, sp, h⟩ := h
  have HH := hid h
  have HM := hid hc
  have HC : Hid ((o, hi, lo) ∈ E.map Prod.fst) := List.mem_map.2 ⟨_, hc, rfl⟩
  clear h hc
  go_enter Try.func75, Try.ntmps75
  go_upto_region 5 with (first | (go_at_call 77; refine (find_there (HH.out.alloc _) o hi lo h1 h2 HC.out).mono ?_; rintro e w2 ⟨i, u, hi_, rfl, hb2⟩; have HI := hid hi_; have HB2 := hid (below_call (below1 _ _) hb2); clear hb2 hi_))
  have hS := HH.out.later HB2.out
  have hilt : i < N := by rw [← hS.tm.len]; exact get_lt HI.out
  have hbig := hS.tm.big
  have hP := hS.tm.at_ _ _ HI.out
  have p4 := hP.c4
  have z0 := hS.tm.a0
  have hu : u = v := by
    have m1 := hS.mem HI.out rfl
    exact one_val hS.nodup m1 HM.out
  subst hu
  clear hS hP
  go_wp2
  exact bodyPost_ret (v := .tuple #[.int .i64 u, .bool true]) (by simp [results, Try.results75, go_sem]) rfl ⟨rfl, HB2.out⟩
end Go.Proofs.Ytciidjhadijhdaa.H.I
