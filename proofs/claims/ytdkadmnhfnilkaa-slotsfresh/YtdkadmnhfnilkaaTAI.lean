import Derived.Test.YtdkadmnhfnilkaaT9I
import Derived.Test.YtdkadmnhfnilkaaB1
namespace Go.Proofs.Ytdkadmnhfnilkaa.I
open Go.RowKit
set_option linter.unusedVariables false

/-- The keys of the first i places. -/
def kys (L : List Q) (i : Nat) : List Cp := (ents (L.take i)).map Prod.fst
theorem take_succ {L : List Q} {i : Nat} {p : Q} (hp : L[i]? = some p) : L.take (i + 1) = L.take i ++ [p] := by
  rw [List.take_add_one, hp]; rfl
theorem kys_used {L : List Q} {i : Nat} {p : Q} (hp : L[i]? = some p) (hk : p.k = 1) : kys L (i + 1) = kys L i ++ [p.c] := by
  unfold kys ents
  rw [take_succ hp, List.filterMap_append, List.map_append]
  simp [ent, hk]
theorem kys_not {L : List Q} {i : Nat} {p : Q} (hp : L[i]? = some p) (hk : p.k = 0 ∨ p.k = 1 ∨ p.k = 2) (h1 : p.k ≠ 1) : kys L (i + 1) = kys L i := by
  unfold kys ents
  rw [take_succ hp, List.filterMap_append, List.map_append]
  have : ent p = none := by
    unfold ent
    rw [if_neg (by omega)]
  simp [this]
theorem kys_le (L : List Q) (i : Nat) : (kys L i).length ≤ (ents L).length := by
  unfold kys
  rw [List.length_map]
  exact (((List.take_sublist i L).filterMap ent).length_le)
theorem kys_all {L : List Q} {i : Nat} (h : L.length ≤ i) : kys L i = (ents L).map Prod.fst := by
  unfold kys
  rw [List.take_of_length_le h]
/-- A place's own copy, and its key's. -/
def boxW (wr : World) (p : Q) : World :=
  (wr.alloc (Obj.cells #[.int .i64 p.k, .int .i64 p.c.1, .int .u64 (p.c.2.1 : Int), .int .u64 (p.c.2.2 : Int), .int .i64 p.v] 80)).alloc (Obj.cells #[.int .i64 p.c.1, .int .u64 (p.c.2.1 : Int), .int .u64 (p.c.2.2 : Int)] 34)
theorem boxW_below (wr : World) (p : Q) : Below wr.heap.size wr (boxW wr p) := below2 _ _ _
theorem boxW_cel (wr : World) (p : Q) : Cel (boxW wr p) (wr.heap.size + 1) 0 p.c := by
  unfold boxW
  exact ⟨by simp [go_sem], by simp [go_sem], by simp [go_sem]⟩
def CapsRel (w : World) (L : List Q) (N blk li : Nat) (s t : Value) (w' : World) : Prop :=
  ∃ i : Nat, i ≤ N ∧ t = .int .i64 (i : Int) ∧ s = .slice (some ⟨blk, 0, none⟩) (kys L i).length li ∧ w'.ownsRow w.heap.size 34 3 (.slice (some ⟨blk, 0, none⟩) (kys L i).length li) (kys L i).length (caps (kys L i)) ∧ Below w.heap.size w w'
/-- Behind Caps. -/
def Told (w : World) (E : List (Cp × Int)) (e : Ending) (w' : World) : Prop :=
  ∃ blk : Nat, e = .returned (.slice (some ⟨blk, 0, none⟩) E.length E.length) ∧ Ca w' blk (srt (E.map Prod.fst)) ∧ w.heap.size ≤ blk ∧ Below w.heap.size w w'
set_option maxRecDepth 100000 in
set_option maxHeartbeats 2000000 in
theorem caps_any {w : World} {g gb kn mo N : Nat} {E : List (Cp × Int)} (h : Tb w g gb kn mo N E) : Calls Try.prog 18 #[.pointer (some ⟨g, 0, none⟩)] w (Told w E) := by
  obtain ⟨L, sp, h⟩ := h
  have HH := hid h
  have hbig := h.tm.big
  have hpos := h.tm.pos
  have hmo := h.most
  have hm2 := h.m2
  have x0 := h.tm.a0
  have x3 := h.tm.a3.1
  have hEl : Hid ((ents L).length = E.length) := h.perm.length_eq
  obtain ⟨w1, hrun, ho, hb1⟩ := make_caps w E.length (by omega)
  have y0 := cell_later hb1 x0
  have HO := hid ho
  have HB1 := hid hb1
  have HLen := hid h.tm.len
  clear h ho hb1
  go_enter Try.func18, Try.ntmps18
  go_upto_region 3 with fail
  clear x0 x3 hrun
  go_loopw [3, 16] (CapsRel w L N w.heap.size E.length) (fun _ t _ => N - (intOf t).toNat)
  case atStart => exact ⟨0, Nat.zero_le _, rfl, rfl, HO.out, HB1.out⟩
  case round =>
    obtain ⟨i, hi, rfl, rfl, ho, hB⟩ := hrel
    have HOw := hid ho
    have HB := hid hB
    clear ho hB
    by_cases hlt : i < N
    · have hS := HH.out.later HB.out
      obtain ⟨p, hp⟩ := get_some (L := L) (i := i) (by rw [HLen.out]; exact hlt)
      obtain ⟨c0, c1, c2, c3, c4⟩ := hS.tm.at_ _ _ hp
      have hkd := hS.kinds _ _ hp
      have HP := hid hp
      have hn := kys_le L i
      rw [hEl.out] at hn
      clear hp hS
      by_cases hk : p.k = 1
      · have HKy := hid (kys_used HP.out hk)
        have hn2 := kys_le L (i + 1)
        rw [hEl.out, HKy.out, List.length_append, List.length_singleton] at hn2
        rw [hk] at c0
        clear hkd
        obtain ⟨pk, pc, pv⟩ := p
        simp only at hk c0 c1 c2 c3 c4 HKy
        subst hk
        generalize hK : kys L i = K at *
        obtain ⟨w5, hr5, ho5, hb5⟩ := append_fits (m := 1) (own_but (S := fun _ => False) (But.of (boxW_below wr ⟨1, pc, pv⟩)) HOw.out (fun _ _ h => h)) pc (boxW_cel wr ⟨1, pc, pv⟩) hn2
        have HO5 := hid ho5
        have HB5 := hid hb5
        clear ho5 hb5
        go_wp2_with (first | (at_builtin; refine wpList_append_known rfl _ _ 43 rfl _ _ rfl rfl _ _ hr5 ?_))
        refine ⟨⟨i + 1, by omega, by go_num, ?_, ?_, HB5.out.below (below_call HB.out (boxW_below wr ⟨1, pc, pv⟩)) (fun k hk => by omega)⟩, by simp [intOf]; omega⟩
        · rw [HKy.out, List.length_append]; rfl
        · rw [HKy.out, List.length_append]; exact HO5.out
      · have HKy := hid (kys_not HP.out hkd hk)
        have hk1 : (p.k == 1) = false := by simpa using hk
        clear hk hkd
        go_wp2
        refine ⟨⟨i + 1, by omega, by go_num, by rw [HKy.out], ?_, ?_⟩, by simp [intOf]; omega⟩
        · rw [HKy.out]
          exact own_but (S := fun _ => False) (But.of (below1 _ _)) HOw.out (fun _ _ h => h)
        · exact below_call HB.out (below1 _ _)
    · obtain rfl : i = N := by omega
      have HKy := hid (kys_all (L := L) (i := i) (by rw [HLen.out]; exact Nat.le_refl _))
      have hCa := ca_of HOw.out
      have hKl : (kys L i).length = E.length := by rw [HKy.out, List.length_map]; exact hEl.out
      have hsr : srt (kys L i) = srt (E.map Prod.fst) := srt_congr (by rw [HKy.out]; exact HH.out.perm.map _)
      have hsz : (kys L i).toArray.size = E.length := by simp [hKl]
      have hso := fun (W : World) (hW : Ca W w.heap.size (kys L i)) => sort_some w.heap.size E.length (kys L i).toArray W hW.holds hW.lt (by rw [hsz]; omega)
      rw [hsz] at hso
      simp only [hsr] at hso
      have HCa := hid hCa
      have HSr := hid hsr
      rw [hKl]
      clear hCa hsr hsz
      generalize kys L i = K at *
      go_wp2_with (first | (go_at_call 31; refine (hso _ HCa.out).mono ?_; rintro e w6 ⟨rfl, n6, os6, hw6⟩; have HW6 := hid hw6; clear hw6))
      go_ret
      obtain ⟨t1, t2⟩ := ca_sort (n := n6) (os := os6) HCa.out
      rw [HSr.out] at t1 t2
      refine ⟨w.heap.size, rfl, by rw [HW6.out]; exact t1, Nat.le_refl _, ?_⟩
      rw [HW6.out]
      exact t2.below HB.out (fun k hk => by omega)
end Go.Proofs.Ytdkadmnhfnilkaa.I
