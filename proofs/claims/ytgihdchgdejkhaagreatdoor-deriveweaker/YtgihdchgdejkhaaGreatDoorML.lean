import Derived.Test.YtgihdchgdejkhaaGreatDoorT5I
import Derived.Test.YtgihdchgdejkhaaGreatDoorHQ
import Derived.Deep.LoopGhost
namespace Go.Proofs.YtgihdchgdejkhaaGreatDoor.H.I
open Go.RowKit
set_option linter.unusedVariables false

/-- Behind remake. -/
def Anew (w : World) (g gb kn mo : Nat) (li : Int) (N : Nat) (L : List Q) (W : World) : Prop :=
  ∃ M : List Q, Tm W g gb kn mo li ((N : Int) - li) N M ∧ (∀ (j : Nat) (p : Q), M[j]? = some p → p.k = 0 ∨ p.k = 1) ∧ Way (hm kn N) (· ≠ 0) M ∧ (ents M).Perm (ents L) ∧ But (In g gb) w W
def LoosRel (w : World) (g gb kn mo : Nat) (li sp : Int) (N : Nat) (L : List Q) (t : Value) (W : World) : Prop :=
  ∃ (i : Nat) (M : List Q), i ≤ N ∧ t = .int .i64 (i : Int) ∧ Up i L M ∧ Tm W g gb kn mo li sp N M ∧ But (In g gb) w W
def SetsRel (w : World) (g gb kn mo : Nat) (li sp : Int) (N : Nat) (L : List Q) (t : Value) (W : World) : Prop :=
  ∃ (i : Nat) (M : List Q), i ≤ N ∧ t = .int .i64 (i : Int) ∧ Mid (hm kn N) L M i ∧ Tm W g gb kn mo li sp N M ∧ But (In g gb) w W
def SetRel (w : World) (g gb kn mo : Nat) (li sp : Int) (N : Nat) (L : List Q) (i k : Nat) (t : Value) (W : World) : Prop :=
  ∃ M : List Q, loo M = k ∧ Mid (hm kn N) L M i ∧ Tm W g gb kn mo li sp N M ∧ But (In g gb) w W
set_option maxRecDepth 100000 in
set_option maxHeartbeats 2000000 in
theorem remake_any {w : World} {g gb kn mo : Nat} {li sp : Int} {N : Nat} {L : List Q} (h : Tm w g gb kn mo li sp N L) (hk : ∀ (i : Nat) (p : Q), L[i]? = some p → p.k = 0 ∨ p.k = 1 ∨ p.k = 2) (hl0 : 0 ≤ li) (hl1 : li ≤ 1024) :
    Calls Tryz.prog 135 #[.pointer (some ⟨g, 0, none⟩)] w fun e w' => e = .returned (.tuple #[]) ∧ Anew w g gb kn mo li N L w' := by
  have HH := hid h
  have HK := hid hk
  have hpos := h.pos
  have hbig := h.big
  have hlen := hid h.len
  have x0 := h.a0
  have hne := h.ne
  clear h hk
  go_enter Tryz.func135, Tryz.ntmps135
  go_upto_region 1 with fail
  go_loopw [9] (LoosRel w g gb kn mo li sp N L) (fun t _ => N - (intOf t).toNat)
  case atStart => exact ⟨0, L, Nat.zero_le _, rfl, Up.zero _, HH.out, But.refl _ _⟩
  case round =>
    obtain ⟨i, M, hi, rfl, hU, hT, hB⟩ := hrel
    have HU := hid hU
    have HT := hid hT
    have HB := hid hB
    clear hU hB
    by_cases hlt : i < N
    · obtain ⟨p, hp⟩ := get_some (L := M) (i := i) (by rw [hT.len]; exact hlt)
      have hpL : Hid (L[i]? = some p) := by unfold Hid; rw [← HU.out.at_]; exact hp
      have y0 := hT.a0
      have c0 := (hT.at_ _ _ hp).c0
      have f0 := hT.fr (i * 5)
      have HP := hid hp
      clear hp hT
      have hc : p.k = 1 ∨ p.k = 2 ∨ (p.k ≠ 1 ∧ p.k ≠ 2) := by omega
      rcases hc with hk1 | hk2 | ⟨hk1, hk2⟩
      · have hrl := hid (relab_used hk1)
        have hst := hid (HT.out.setK HP.out 3)
        rw [hk1] at c0
        go_wp2
        refine ⟨⟨i + 1, _, by omega, by go_num, HU.out.step hpL.out hrl.out.symm, hst.out, HB.out.setCell (p := ⟨gb, i * 5, none⟩) (.inr rfl) _⟩, by simp [intOf]; omega⟩
      · have hrl := hid (relab_tomb hk2)
        have hst := hid (HT.out.setK HP.out 0)
        rw [hk2] at c0
        go_wp2
        refine ⟨⟨i + 1, _, by omega, by go_num, HU.out.step hpL.out hrl.out.symm, hst.out, HB.out.setCell (p := ⟨gb, i * 5, none⟩) (.inr rfl) _⟩, by simp [intOf]; omega⟩
      · have hrl := hid (relab_same hk1 hk2)
        have hn1 : (p.k == 1) = false := by simpa using hk1
        have hn2 : (p.k == 2) = false := by simpa using hk2
        go_wp2
        refine ⟨⟨i + 1, M, by omega, by go_num, HU.out.same hpL.out hrl.out, HT.out, HB.out⟩, by simp [intOf]; omega⟩
    · obtain rfl : i = N := by omega
      have hM := HU.out.fin_ (by rw [hlen.out]; exact Nat.le_refl _)
      have y0 := hT.a0
      have HM := hid hM
      clear hT hM
      go_upto_region 10 with fail
      go_loopw [44] (SetsRel w g gb kn mo li sp i L) (fun t _ => i - (intOf t).toNat)
      case atStart => exact ⟨0, M, Nat.zero_le _, rfl, by rw [HM.out]; exact Mid.start _ HK.out, HT.out, HB.out⟩
      case round =>
        obtain ⟨j, M2, hj, rfl, hMi, hT2, hB2⟩ := hrel
        have HMi := hid hMi
        have HT2 := hid hT2
        have HB2 := hid hB2
        clear hMi hB2
        by_cases hlt2 : j < i
        · clear hT2
          go_upto_region 12 with fail
          go_loopg [55] (loo M2) (SetRel w g gb kn mo li sp i L j)
          case atStart => exact ⟨M2, rfl, HMi.out, HT2.out, HB2.out⟩
          case round =>
            obtain ⟨M3, hlo, hMi3, hT3, hB3⟩ := hrel
            obtain ⟨p, hp⟩ := get_some (L := M3) (i := j) (by rw [hT3.len]; exact hlt2)
            have z0 := hT3.a0
            have c0 := (hT3.at_ _ _ hp).c0
            have HP := hid hp
            have HLo := hid hlo
            have HMi3 := hid hMi3
            have HT3 := hid hT3
            have HB3 := hid hB3
            clear hp hlo hMi3 hT3 hB3
            by_cases hk3 : p.k = 3
            · have HK3 := hid hk3
              rw [hk3] at c0
              clear hk3
              go_wp2_with (first | (go_at_call 138; refine (settle_any HT3.out j p HP.out HK3.out).mono ?_; rintro e w5 ⟨rfl, hS⟩; have HS := hid hS; clear hS))
              obtain ⟨to_, d, q, s1, s2, s3, s4, s5, s6, s7, s8⟩ := HS.out
              have hl3 := HT3.out.len
              obtain ⟨m1, m2⟩ := HMi3.out.settle HP.out HK3.out (by rw [hl3]; exact s1) (by rw [hl3]; exact s2) s3 s4 s5 (by rw [hl3]; exact s6)
              go_roundg (loo ((M3.set j q).set to_ ⟨1, p.c, p.v⟩))
              case measure => rw [← HLo.out]; exact m2
              case rel => exact ⟨_, rfl, m1, s7, HB3.out.trans s8⟩
            · have hn3 : (p.k == 3) = false := by simpa using hk3
              have HN3 := hid hk3
              clear hk3
              go_wp2
              exact ⟨⟨j + 1, M3, by omega, by go_num, HMi3.out.next HP.out HN3.out, HT3.out, HB3.out⟩, by simp [intOf]; omega⟩
        · obtain rfl : j = i := by omega
          have z0 := hT2.a0
          have z3 := hT2.a3.1
          have z4 := hT2.a4.1
          have z4' := hT2.a4.2
          have hsp := hid (hT2.spare ((j : Int) - li))
          clear hT2
          go_wp2
          go_region
          go_wp2
          go_end0
          have hl2 := HT2.out.len
          have he := HMi.out.fin_ (by rw [hl2]; exact Nat.le_refl _)
          exact ⟨rfl, M2, hsp.out.later (Below.refl _ _).drew, he.1, he.2, HMi.out.perm, (HB2.out.setCell (p := ⟨g, 4, none⟩) (.inl rfl) _).call (Below.refl _ _).drew⟩
end Go.Proofs.YtgihdchgdejkhaaGreatDoor.H.I
namespace Go.Proofs.YtgihdchgdejkhaaGreatDoor.H.I
open Go.RowKit
set_option linter.unusedVariables false

/-- A table with its places: E are the pairs that are there. -/
structure Sl (w : World) (g gb kn mo N : Nat) (L : List Q) (sp : Nat) (E : List (Cp × Int)) : Prop where
  tm : Tm w g gb kn mo (E.length : Int) (sp : Int) N L
  kinds : ∀ (i : Nat) (p : Q), L[i]? = some p → p.k = 0 ∨ p.k = 1 ∨ p.k = 2
  way : Way (hm kn N) (· ≠ 0) L
  perm : (ents L).Perm E
  nodup : (E.map Prod.fst).Nodup
  free : fre L = sp
  most : E.length ≤ mo
  m1 : 1 ≤ mo
  m2 : 2 * mo ≤ N
/-- A table: E are the pairs that are there. -/
def Tb (w : World) (g gb kn mo N : Nat) (E : List (Cp × Int)) : Prop := ∃ L sp, Sl w g gb kn mo N L sp E
theorem Sl.but {S : Nat → Prop} {w w' : World} {g gb kn mo N : Nat} {L : List Q} {sp : Nat} {E : List (Cp × Int)} (hb : But S w w') (h : Sl w g gb kn mo N L sp E) (h1 : ¬ S g) (h2 : ¬ S gb) : Sl w' g gb kn mo N L sp E :=
  ⟨h.tm.but hb h1 h2, h.kinds, h.way, h.perm, h.nodup, h.free, h.most, h.m1, h.m2⟩
theorem Sl.later {w w' : World} {g gb kn mo N : Nat} {L : List Q} {sp : Nat} {E : List (Cp × Int)} (hb : Below w.heap.size w w') (h : Sl w g gb kn mo N L sp E) : Sl w' g gb kn mo N L sp E := h.but (S := fun _ => False) (But.of hb) (fun h => h) (fun h => h)
theorem Sl.alloc {w : World} {g gb kn mo N : Nat} {L : List Q} {sp : Nat} {E : List (Cp × Int)} (h : Sl w g gb kn mo N L sp E) (o : Obj) : Sl (w.alloc o) g gb kn mo N L sp E := h.later (below1 _ _)
theorem Tb.but {S : Nat → Prop} {w w' : World} {g gb kn mo N : Nat} {E : List (Cp × Int)} (hb : But S w w') (h : Tb w g gb kn mo N E) (h1 : ¬ S g) (h2 : ¬ S gb) : Tb w' g gb kn mo N E := by
  obtain ⟨L, sp, h⟩ := h; exact ⟨L, sp, h.but hb h1 h2⟩
theorem Tb.later {w w' : World} {g gb kn mo N : Nat} {E : List (Cp × Int)} (hb : Below w.heap.size w w') (h : Tb w g gb kn mo N E) : Tb w' g gb kn mo N E := by
  obtain ⟨L, sp, h⟩ := h; exact ⟨L, sp, h.later hb⟩
theorem Tb.alloc {w : World} {g gb kn mo N : Nat} {E : List (Cp × Int)} (h : Tb w g gb kn mo N E) (o : Obj) : Tb (w.alloc o) g gb kn mo N E := h.later (below1 _ _)
theorem Tb.lt {w : World} {g gb kn mo N : Nat} {E : List (Cp × Int)} (h : Tb w g gb kn mo N E) : g < w.heap.size := by obtain ⟨L, sp, h⟩ := h; exact h.tm.lt
theorem Tb.lt2 {w : World} {g gb kn mo N : Nat} {E : List (Cp × Int)} (h : Tb w g gb kn mo N E) : gb < w.heap.size := by obtain ⟨L, sp, h⟩ := h; exact h.tm.lt2
theorem Tb.nodup {w : World} {g gb kn mo N : Nat} {E : List (Cp × Int)} (h : Tb w g gb kn mo N E) : (E.map Prod.fst).Nodup := by obtain ⟨L, sp, h⟩ := h; exact h.nodup
theorem Tb.most {w : World} {g gb kn mo N : Nat} {E : List (Cp × Int)} (h : Tb w g gb kn mo N E) : E.length ≤ mo := by obtain ⟨L, sp, h⟩ := h; exact h.most
theorem Tb.small {w : World} {g gb kn mo N : Nat} {E : List (Cp × Int)} (h : Tb w g gb kn mo N E) : mo ≤ 512 := by obtain ⟨L, sp, h⟩ := h; have := h.tm.big; have := h.m2; omega
theorem Tb.ok {w : World} {g gb kn mo N : Nat} {E : List (Cp × Int)} (h : Tb w g gb kn mo N E) {c : Cp} (hc : c ∈ E.map Prod.fst) : c.2.1 < B64 ∧ c.2.2 < B64 := by
  obtain ⟨L, sp, h⟩ := h
  obtain ⟨y, hy, rfl⟩ := List.mem_map.1 hc
  obtain ⟨i, p, hp, hk, rfl⟩ := mem_ents ((h.perm.mem_iff).2 hy) h.kinds
  exact h.tm.ok i p hp
theorem Tb.perm {w : World} {g gb kn mo N : Nat} {E E' : List (Cp × Int)} (h : Tb w g gb kn mo N E) (hp : E.Perm E') : Tb w g gb kn mo N E' := by
  obtain ⟨L, sp, h⟩ := h
  have hl := hp.length_eq
  exact ⟨L, sp, by rw [← hl]; exact h.tm, h.kinds, h.way, h.perm.trans hp, (hp.map _).nodup_iff.1 h.nodup, h.free, by rw [← hl]; exact h.most, h.m1, h.m2⟩

/-- Which pairs a place's key stands for. -/
theorem Sl.mem {w : World} {g gb kn mo N : Nat} {L : List Q} {sp : Nat} {E : List (Cp × Int)} (h : Sl w g gb kn mo N L sp E) {i : Nat} {p : Q} (hp : L[i]? = some p) (hk : p.k = 1) : (p.c, p.v) ∈ E := h.perm.mem_iff.1 (ents_mem hp hk)
theorem Sl.there {w : World} {g gb kn mo N : Nat} {L : List Q} {sp : Nat} {E : List (Cp × Int)} (h : Sl w g gb kn mo N L sp E) {c : Cp} (hc : c ∈ E.map Prod.fst) : ∃ (i : Nat) (p : Q), L[i]? = some p ∧ p.k = 1 ∧ p.c = c := by
  obtain ⟨y, hy, rfl⟩ := List.mem_map.1 hc
  obtain ⟨i, p, hp, hk, rfl⟩ := mem_ents (h.perm.mem_iff.2 hy) h.kinds
  exact ⟨i, p, hp, hk, rfl⟩
theorem find_there {w : World} {g gb kn mo N : Nat} {L : List Q} {sp : Nat} {E : List (Cp × Int)} (h : Sl w g gb kn mo N L sp E) (o : Int) (hi lo : Nat) (h1 : hi < B64) (h2 : lo < B64) (hc : (o, hi, lo) ∈ E.map Prod.fst) :
    Calls Tryz.prog 126 #[.pointer (some ⟨g, 0, none⟩), .agg #[.int .i64 o, .int .u64 (hi : Int), .int .u64 (lo : Int)]] w fun e w' => ∃ (i : Nat) (v : Int), L[i]? = some ⟨1, (o, hi, lo), v⟩ ∧ e = .returned (.tuple #[.int .i64 (i : Int), .bool true]) ∧ Below w.heap.size w w' := by
  refine (find_any h.tm h.way o hi lo h1 h2).mono ?_
  rintro e w' ⟨⟨i, p, hp, hk, hpc, he⟩ | ⟨hn, he⟩, hb⟩
  · refine ⟨i, p.v, ?_, he, hb⟩
    rw [hp, ← hk, ← hpc]
  · obtain ⟨i, p, hp, hk, hpc⟩ := h.there hc
    exact absurd hpc (hn i p hp hk)
theorem find_none {w : World} {g gb kn mo N : Nat} {L : List Q} {sp : Nat} {E : List (Cp × Int)} (h : Sl w g gb kn mo N L sp E) (o : Int) (hi lo : Nat) (h1 : hi < B64) (h2 : lo < B64) (hc : (o, hi, lo) ∉ E.map Prod.fst) :
    Calls Tryz.prog 126 #[.pointer (some ⟨g, 0, none⟩), .agg #[.int .i64 o, .int .u64 (hi : Int), .int .u64 (lo : Int)]] w fun e w' => e = .returned (.tuple #[.int .i64 0, .bool false]) ∧ Below w.heap.size w w' := by
  refine (find_any h.tm h.way o hi lo h1 h2).mono ?_
  rintro e w' ⟨⟨i, p, hp, hk, hpc, he⟩ | ⟨hn, he⟩, hb⟩
  · exact absurd (List.mem_map.2 ⟨_, h.mem hp hk, hpc⟩) hc
  · exact ⟨he, hb⟩
set_option maxRecDepth 100000 in
set_option maxHeartbeats 1000000 in
theorem get_none {w : World} {g gb kn mo N : Nat} {E : List (Cp × Int)} (h : Tb w g gb kn mo N E) (o : Int) (hi lo : Nat) (h1 : hi < B64) (h2 : lo < B64) (hc : (o, hi, lo) ∉ E.map Prod.fst) :
    Calls Tryz.prog 107 #[.pointer (some ⟨g, 0, none⟩), .agg #[.int .i64 o, .int .u64 (hi : Int), .int .u64 (lo : Int)]] w fun e w' => e = .returned (.tuple #[.int .i64 0, .bool false]) ∧ Below w.heap.size w w' := by
  obtain ⟨L, sp, h⟩ := h
  have HH := hid h
  have HC := hid hc
  clear h hc
  go_enter Tryz.func107, Tryz.ntmps107
  go_wp2_with (first | (go_at_call 126; refine (find_none (HH.out.alloc _) o hi lo h1 h2 HC.out).mono ?_; rintro e w2 ⟨rfl, hb2⟩; have HB2 := hid (below_call (below1 _ _) hb2); clear hb2))
  exact bodyPost_ret (v := .tuple #[.int .i64 0, .bool false]) (by simp [results, Tryz.results107, go_sem]) rfl ⟨rfl, HB2.out⟩
set_option maxRecDepth 100000 in
set_option maxHeartbeats 1000000 in
theorem drop_none {w : World} {g gb kn mo N : Nat} {E : List (Cp × Int)} (h : Tb w g gb kn mo N E) (o : Int) (hi lo : Nat) (h1 : hi < B64) (h2 : lo < B64) (hc : (o, hi, lo) ∉ E.map Prod.fst) :
    Calls Tryz.prog 108 #[.pointer (some ⟨g, 0, none⟩), .agg #[.int .i64 o, .int .u64 (hi : Int), .int .u64 (lo : Int)]] w fun e w' => e = .returned (.bool false) ∧ Below w.heap.size w w' := by
  obtain ⟨L, sp, h⟩ := h
  have HH := hid h
  have HC := hid hc
  clear h hc
  go_enter Tryz.func108, Tryz.ntmps108
  go_wp2_with (first | (go_at_call 126; refine (find_none (HH.out.alloc _) o hi lo h1 h2 HC.out).mono ?_; rintro e w2 ⟨rfl, hb2⟩; have HB2 := hid (below_call (below1 _ _) hb2); clear hb2))
  go_ret
  exact ⟨rfl, HB2.out⟩
/-- A pair goes. -/
theorem Sl.drop {w : World} {g gb kn mo N : Nat} {L : List Q} {sp : Nat} {E E' : List (Cp × Int)} (h : Sl w g gb kn mo N L sp E) {i : Nat} {c : Cp} {v : Int} (hp : L[i]? = some ⟨1, c, v⟩) (z : Int) {n : Int} (hn : n = (E.length : Int) - 1) (hE : E.Perm ((c, v) :: E')) :
    Sl ((setP w gb (i * 5) ⟨2, (0, 0, 0), z⟩).setCell ⟨g, 3, none⟩ (.int .i64 n)) g gb kn mo N (L.set i ⟨2, (0, 0, 0), z⟩) sp E' := by
  have hl := hE.length_eq
  rw [List.length_cons] at hl
  have hn' : n = (E'.length : Int) := by omega
  have hnd := (hE.map Prod.fst).nodup_iff.1 h.nodup
  rw [List.map_cons, List.nodup_cons] at hnd
  have hm := h.most
  refine ⟨?_, ?_, ?_, ?_, hnd.2, ?_, by omega, h.m1, h.m2⟩
  · have t := (h.tm.set hp ⟨2, (0, 0, 0), z⟩ ⟨show (0 : Nat) < B64 by decide, show (0 : Nat) < B64 by decide⟩).live n
    rw [← hn']
    exact t
  · intro j x hx
    rcases get_set hx with ⟨rfl, rfl⟩ | ⟨_, h3⟩
    · exact .inr (.inr rfl)
    · exact h.kinds _ _ h3
  · exact h.way.set (fun _ _ _ => show (2 : Int) ≠ 0 by decide) (fun hx => absurd hx (show ¬ (2 : Int) = 1 by decide))
  · have hd := ents_del (x := (⟨2, (0, 0, 0), z⟩ : Q)) (y := (c, v)) hp (by simp [ent]) (by simp [ent])
    exact (hd.symm.trans (h.perm.trans hE)).cons_inv
  · rw [fre_same hp (show (1 : Int) ≠ 0 by decide) (show (2 : Int) ≠ 0 by decide)]
    exact h.free
set_option maxRecDepth 100000 in
set_option maxHeartbeats 1000000 in
theorem drop_ok {w : World} {g gb kn mo N : Nat} {E : List (Cp × Int)} (h : Tb w g gb kn mo N E) (o : Int) (hi lo : Nat) (h1 : hi < B64) (h2 : lo < B64) (v : Int) (hc : ((o, hi, lo), v) ∈ E) (E' : List (Cp × Int)) (hE : E.Perm (((o, hi, lo), v) :: E')) :
    Calls Tryz.prog 108 #[.pointer (some ⟨g, 0, none⟩), .agg #[.int .i64 o, .int .u64 (hi : Int), .int .u64 (lo : Int)]] w fun e w' => e = .returned (.bool true) ∧ Tb w' g gb kn mo N E' ∧ But (In g gb) w w' := by
  obtain ⟨L, sp, h⟩ := h
  have HH := hid h
  have HC : Hid ((o, hi, lo) ∈ E.map Prod.fst) := List.mem_map.2 ⟨_, hc, rfl⟩
  have hne := h.tm.ne
  have hbig := h.tm.big
  have hm := h.most
  have hm2 := h.m2
  clear h hc
  go_enter Tryz.func108, Tryz.ntmps108
  go_upto_region 4 with (first | (go_at_call 126; refine (find_there (HH.out.alloc _) o hi lo h1 h2 HC.out).mono ?_; rintro e w2 ⟨i, u, hi_, rfl, hb2⟩; have HI := hid hi_; have HB2 := hid (below_call (below1 _ _) hb2); clear hb2 hi_))
  have hS := HH.out.later HB2.out
  have hilt : i < N := by rw [← hS.tm.len]; exact get_lt HI.out
  obtain ⟨p0, p1, p2, p3, p4⟩ := hS.tm.at_ _ _ HI.out
  have z0 := hS.tm.a0
  have z3 := hS.tm.a3.1
  have z3' := hS.tm.a3.2
  have hfr := hS.tm.fr
  have HS := hid hS
  have hu : u = v := by
    have m1 := HS.out.mem HI.out rfl
    rcases List.mem_cons.1 (hE.mem_iff.1 m1) with h3 | h3
    · exact (Prod.mk.inj h3).2
    · have hnd := (hE.map Prod.fst).nodup_iff.1 HS.out.nodup
      rw [List.map_cons, List.nodup_cons] at hnd
      exact absurd (List.mem_map.2 ⟨_, h3, rfl⟩) hnd.1
  subst hu
  have hfin : ∀ W : World, W = (setP w2 gb (i * 5) ⟨2, (0, 0, 0), 0⟩).setCell ⟨g, 3, none⟩ (.int .i64 ((E.length : Int) - 1)) → Tb W g gb kn mo N E' ∧ But (In g gb) w W := by
    rintro W rfl
    exact ⟨⟨_, _, HS.out.drop HI.out 0 rfl hE⟩, (setP_but (But.of HB2.out) (.inr rfl) _ _).setCell (p := ⟨g, 3, none⟩) (.inl rfl) _⟩
  have HF := hid hfin
  clear hS hE hfin
  go_wp2
  go_ret
  exact ⟨rfl, HF.out _ rfl⟩
set_option maxRecDepth 100000 in
set_option maxHeartbeats 1000000 in
theorem get_ok {w : World} {g gb kn mo N : Nat} {E : List (Cp × Int)} (h : Tb w g gb kn mo N E) (o : Int) (hi lo : Nat) (h1 : hi < B64) (h2 : lo < B64) (v : Int) (hc : ((o, hi, lo), v) ∈ E) :
    Calls Tryz.prog 107 #[.pointer (some ⟨g, 0, none⟩), .agg #[.int .i64 o, .int .u64 (hi : Int), .int .u64 (lo : Int)]] w fun e w' => e = .returned (.tuple #[.int .i64 v, .bool true]) ∧ Below w.heap.size w w' := by
  obtain ⟨L, sp, h⟩ := h
  have HH := hid h
  have HM := hid hc
  have HC : Hid ((o, hi, lo) ∈ E.map Prod.fst) := List.mem_map.2 ⟨_, hc, rfl⟩
  clear h hc
  go_enter Tryz.func107, Tryz.ntmps107
  go_upto_region 5 with (first | (go_at_call 126; refine (find_there (HH.out.alloc _) o hi lo h1 h2 HC.out).mono ?_; rintro e w2 ⟨i, u, hi_, rfl, hb2⟩; have HI := hid hi_; have HB2 := hid (below_call (below1 _ _) hb2); clear hb2 hi_))
  have hS := HH.out.later HB2.out
  have hilt : i < N := by rw [← hS.tm.len]; exact get_lt HI.out
  have hbig := hS.tm.big
  have hP := hS.tm.at_ _ _ HI.out
  have p4 := hP.c4
  have z0 := hS.tm.a0
  have hu : u = v := by
    have m1 := hS.mem HI.out rfl
    exact one_val hS.nodup m1 HM.out
  subst hu
  clear hS hP
  go_wp2
  exact bodyPost_ret (v := .tuple #[.int .i64 u, .bool true]) (by simp [results, Tryz.results107, go_sem]) rfl ⟨rfl, HB2.out⟩
end Go.Proofs.YtgihdchgdejkhaaGreatDoor.H.I
