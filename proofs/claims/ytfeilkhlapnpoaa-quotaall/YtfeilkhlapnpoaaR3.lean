import Derived.Test.YtfeilkhlapnpoaaR2
namespace Go.Proofs.Ytfeilkhlapnpoaa
open Go.RowKit Go.Maps
set_option linter.unusedVariables false

/-- Greater than all of O. -/
def cand (O : List Int) (z : Int) : Prop := ∀ y ∈ O, y < z
theorem cand_nil (z : Int) : cand [] z := fun y hy => by cases hy
theorem cand_last {O : List Int} {t z : Int} (h : (O ++ [t]).Pairwise (· < ·)) : cand (O ++ [t]) z ↔ t < z := by
  constructor
  · intro hc
    exact hc t (by simp)
  · intro ht y hy
    rcases List.mem_append.1 hy with h1 | h1
    · have := (List.pairwise_append.1 h).2.2 y h1 t (by simp)
      omega
    · simp at h1; omega
/-- The least candidate among the first j. -/
def Pk (O L : List Int) (j : Nat) (fd : Bool) (b : Int) : Prop :=
  (fd = false ∧ ∀ y ∈ L.take j, ¬ cand O y) ∨ (fd = true ∧ b ∈ L.take j ∧ cand O b ∧ ∀ y ∈ L.take j, cand O y → b ≤ y)
theorem Pk.start (O L : List Int) (b : Int) : Pk O L 0 false b := .inl ⟨rfl, fun y hy => by simp at hy⟩
theorem mem_step {L : List Int} {j : Nat} (h : j < L.length) {y : Int} : y ∈ L.take (j + 1) ↔ y ∈ L.take j ∨ y = L[j] := by
  rw [take_step _ _ h, List.mem_append, List.mem_singleton]
theorem Pk.hit {O L : List Int} {j : Nat} {fd : Bool} {b : Int} (h : Pk O L j fd b) (hj : j < L.length) (hc : cand O L[j]) (hd : fd = false ∨ L[j] < b) : Pk O L (j + 1) true L[j] := by
  refine .inr ⟨rfl, (mem_step hj).2 (.inr rfl), hc, fun y hy hyc => ?_⟩
  rcases (mem_step hj).1 hy with h1 | h1
  · rcases h with ⟨e, h2⟩ | ⟨e, _, _, h2⟩
    · exact absurd hyc (h2 y h1)
    · rcases hd with h3 | h3
      · rw [e] at h3; cases h3
      · have := h2 y h1 hyc; omega
  · omega
theorem Pk.miss {O L : List Int} {j : Nat} {fd : Bool} {b : Int} (h : Pk O L j fd b) (hj : j < L.length) (hn : ¬ (cand O L[j] ∧ (fd = false ∨ L[j] < b))) : Pk O L (j + 1) fd b := by
  rcases h with ⟨e, h2⟩ | ⟨e, h3, h4, h2⟩
  · refine .inl ⟨e, fun y hy hyc => ?_⟩
    rcases (mem_step hj).1 hy with h1 | h1
    · exact h2 y h1 hyc
    · subst h1
      exact hn ⟨hyc, .inl e⟩
  · refine .inr ⟨e, (mem_step hj).2 (.inl h3), h4, fun y hy hyc => ?_⟩
    rcases (mem_step hj).1 hy with h1 | h1
    · exact h2 y h1 hyc
    · subst h1
      rcases Int.lt_or_le L[j] b with h5 | h5
      · exact absurd ⟨hyc, .inr h5⟩ hn
      · exact h5
/-- What Objects has told so far. -/
structure Og (O L : List Int) : Prop where
  lt : O.Pairwise (· < ·)
  mem : ∀ y ∈ O, y ∈ L
  all : ∀ z ∈ L, z ∈ O ∨ cand O z
theorem Og.start (L : List Int) : Og [] L := ⟨List.Pairwise.nil, fun y hy => (by cases hy), fun z _ => .inr (cand_nil z)⟩
theorem Og.len {O L : List Int} (h : Og O L) : O.length ≤ L.length := nodup_le (lt_nodup h.lt) h.mem
theorem Og.step {O L : List Int} {b : Int} (h : Og O L) (hp : Pk O L L.length true b) : Og (O ++ [b]) L := by
  rw [Pk, List.take_length] at hp
  rcases hp with ⟨e, _⟩ | ⟨_, h3, h4, h2⟩
  · cases e
  · refine ⟨List.pairwise_append.2 ⟨h.lt, by simp, fun y hy z hz => by simp at hz; subst hz; exact h4 y hy⟩, fun y hy => ?_, fun z hz => ?_⟩
    · rcases List.mem_append.1 hy with h5 | h5
      · exact h.mem y h5
      · simp at h5; subst h5; exact h3
    · rcases h.all z hz with h5 | h5
      · exact .inl (List.mem_append_left _ h5)
      · have h6 := h2 z hz h5
        by_cases e : z = b
        · subst e; exact .inl (by simp)
        · refine .inr (fun y hy => ?_)
          rcases List.mem_append.1 hy with h7 | h7
          · exact h5 y h7
          · simp at h7; omega
theorem Og.done {O L : List Int} {b : Int} (h : Og O L) (hp : Pk O L L.length false b) : O = ob L := by
  rw [Pk, List.take_length] at hp
  rcases hp with ⟨_, h2⟩ | ⟨e, _⟩
  · refine lt_one h.lt (ob_lt L) (fun x => ?_)
    rw [ob_mem]
    refine ⟨h.mem x, fun hx => ?_⟩
    rcases h.all x hx with h5 | h5
    · exact h5
    · exact absurd h5 (h2 x hx)
  · cases e
def lenOf : Value → Nat
  | .slice _ n _ => n
  | _ => 0
def ROutRel (w : World) (L : List Int) (o : Value) (w' : World) : Prop :=
  ∃ O p cp, o = .slice p (O : List Int).length cp ∧ Own w' w.heap.size 3 p O.length cp (ints O) ∧ Og O L ∧ Below w.heap.size w w'
def RInRel (W : World) (O L : List Int) (f s t : Value) (w' : World) : Prop :=
  ∃ (j : Nat) (fd : Bool) (b : Int), j ≤ L.length ∧ f = .bool fd ∧ s = .int .i64 b ∧ t = .int .i64 (j : Int) ∧ Pk O L j fd b ∧ ∃ m, w' = W.drewN m
set_option maxRecDepth 100000 in
set_option maxHeartbeats 2000000 in
theorem robjects_any {w : World} {base r : Nat} {e a : Int} {pa : Option Addr} {cap : Nat} {L : List Int} (h : Rf w base r e a pa cap L) :
    Calls Try.prog 15 #[.pointer (some ⟨r, 0, none⟩)] w fun s w' => ∃ p cp, s = .returned (.slice p (ob L).length cp) ∧ Own w' w.heap.size 3 p (ob L).length cp (ints (ob L)) ∧ Below w.heap.size w w' := by
  have HR := hid h
  have hll : L.length ≤ 256 := by have := h.sz.len; have := h.sz.a2; omega
  clear h
  go_enter Try.func15, Try.ntmps15
  go_upto_region 2 with fail
  go_loopw [3] (ROutRel w L) (fun o _ => L.length - lenOf o)
  case atStart => exact ⟨[], none, 0, rfl, Own.nil _ _ _, Og.start L, Below.refl _ _⟩
  case round =>
    obtain ⟨O, p, cp, rfl, hO, hog, hB⟩ := hrel
    have hR := HR.out.later hB
    have hol := hog.len
    generalize hk : O.length = k at *
    have HK := hid hk
    clear hk
    have HO := hid hO
    have HG := hid hog
    have HB := hid hB
    have c2 := hR.c2.1
    have HL := hid hR.own
    clear hO hog hB hR
    go_upto_region 5 with fail
    go_loopw [4, 5, 6] (RInRel wr O L) (fun _ _ t _ => L.length - (intOf t).toNat)
    case atStart => exact ⟨0, false, 0, Nat.zero_le _, rfl, rfl, rfl, Pk.start _ _ _, 0, rfl⟩
    case round =>
      obtain ⟨j, fd, b, hj, rfl, rfl, rfl, hp, m, rfl⟩ := hrel
      have HP := hid hp
      clear hp
      by_cases hlt : j < L.length
      · have hdj : decide ((j : Int) < (L.length : Int)) = true := decide_eq_true (by omega)
        obtain ⟨lb, lo, rfl, h1⟩ := HL.out.read.plain (by omega)
        have y1 := h1 j _ (ints_get _ j hlt)
        have HH := hid (fun hc hd => HP.out.hit hlt hc hd)
        have HM := hid (fun hn => HP.out.miss hlt hn)
        obtain ⟨z, hz⟩ : ∃ z, z = L[j] := ⟨_, rfl⟩
        rw [← hz] at y1 HH HM
        clear h1 hz HP
        obtain ⟨d, hd⟩ : ∃ d : Bool, d = true ↔ (cand O z ∧ (fd = false ∨ z < b)) := by
          rcases Classical.em (cand O z ∧ (fd = false ∨ z < b)) with h | h
          · exact ⟨true, by simp [h]⟩
          · exact ⟨false, by simp [h]⟩
        have HD := hid hd
        clear hd
        go_upto_region 7 with fail
        go_cut [49] (fun s w' => s = .bool d ∧ ∃ m, w' = wr.drewN m)
        case first =>
          by_cases hk0 : k = 0
          · have hO0 : O = [] := List.eq_nil_of_length_eq_zero (by rw [HK.out, hk0])
            have hcd : Hid (cand O z) := by rw [hO0]; exact cand_nil z
            have hq1 : ((k : Int) == 0) = true := by simp [hk0]
            have hq4 : (k == 0) = true := by simp [hk0]
            have hq5 : decide (k = 0) = true := by simp [hk0]
            clear hO0 hk0
            cases fd with
            | false =>
              have HV : Hid (d = true) := HD.out.2 ⟨hcd.out, .inl rfl⟩
              clear HD HH HM
              go_quiet (fail)
              go_wp2
              go_meet
              exact ⟨by rw [HV.out], m + nq, by simp⟩
            | true =>
              by_cases hzb : z < b
              · have HV : Hid (d = true) := HD.out.2 ⟨hcd.out, .inr hzb⟩
                have hq2 : decide (z < b) = true := decide_eq_true hzb
                clear HD HH HM
                go_quiet (fail)
                go_wp2
                go_meet
                exact ⟨by rw [HV.out], m + nq, by simp⟩
              · have HV : Hid (d = false) := by
                  unfold Hid
                  rw [Bool.eq_false_iff]
                  intro hd
                  rcases (HD.out.1 hd).2 with h | h
                  · cases h
                  · exact hzb h
                have hq2 : decide (z < b) = false := decide_eq_false hzb
                clear HD HH HM
                go_quiet (fail)
                go_wp2
                go_meet
                exact ⟨by rw [HV.out], m + nq, by simp⟩
          · obtain ⟨k', rfl⟩ : ∃ k', k = k' + 1 := ⟨k - 1, by omega⟩
            obtain ⟨pb, po, rfl, h2⟩ := HO.out.read.plain (by omega)
            have hkl : k' < O.length := by rw [HK.out]; omega
            have y2 := h2 k' _ (ints_get _ k' hkl)
            have hOO : O = O.take k' ++ [O[k']] := by rw [← take_step _ _ hkl, List.take_of_length_le (by rw [HK.out]; omega)]
            have hcl : cand O z ↔ O[k'] < z := by
              have h3 := HG.out.lt
              rw [hOO] at h3
              have h4 := cand_last (z := z) h3
              rw [← hOO] at h4
              exact h4
            obtain ⟨t, ht⟩ : ∃ t, t = O[k'] := ⟨_, rfl⟩
            rw [← ht] at y2 hcl
            have HCL := hid hcl
            clear h2 hOO hcl ht
            have hq1 : (((k' : Int) + 1) == 0) = false := by simp; omega
            by_cases htz : t < z
            · have hq3 : decide (z > t) = true := decide_eq_true htz
              cases fd with
              | false =>
                have HV : Hid (d = true) := HD.out.2 ⟨HCL.out.2 htz, .inl rfl⟩
                clear HD HH HM
                go_quiet (fail)
                go_wp2
                go_meet
                exact ⟨by rw [HV.out], m + nq, by simp⟩
              | true =>
                by_cases hzb : z < b
                · have HV : Hid (d = true) := HD.out.2 ⟨HCL.out.2 htz, .inr hzb⟩
                  have hq2 : decide (z < b) = true := decide_eq_true hzb
                  clear HD HH HM
                  go_quiet (fail)
                  go_wp2
                  go_meet
                  exact ⟨by rw [HV.out], m + nq, by simp⟩
                · have HV : Hid (d = false) := by
                    unfold Hid
                    rw [Bool.eq_false_iff]
                    intro hd
                    rcases (HD.out.1 hd).2 with h | h
                    · cases h
                    · exact hzb h
                  have hq2 : decide (z < b) = false := decide_eq_false hzb
                  clear HD HH HM
                  go_quiet (fail)
                  go_wp2
                  go_meet
                  exact ⟨by rw [HV.out], m + nq, by simp⟩
            · have hq3 : decide (z > t) = false := decide_eq_false htz
              have HV : Hid (d = false) := by
                unfold Hid
                rw [Bool.eq_false_iff]
                intro hd
                exact htz (HCL.out.1 (HD.out.1 hd).1)
              clear HD HH HM
              go_quiet (fail)
              go_wp2
              go_meet
              exact ⟨by rw [HV.out], m + nq, by simp⟩
        case rest =>
          obtain ⟨rfl, m', rfl⟩ := hcut
          cases d with
          | true =>
            have h5 := HD.out.1 rfl
            have HN : Hid (RInRel wr O L (.bool true) (.int .i64 z) (.int .i64 ((j : Int) + 1)) (wr.drewN m')) := ⟨j + 1, true, z, by omega, rfl, rfl, rfl, HH.out h5.1 h5.2, m', rfl⟩
            clear HD HH HM h5
            go_wp2
            go_roundw
            case rel => exact HN.out
            case measure => simp [intOf]; omega
          | false =>
            have HN : Hid (RInRel wr O L (.bool fd) (.int .i64 b) (.int .i64 ((j : Int) + 1)) (wr.drewN m')) := ⟨j + 1, fd, b, by omega, rfl, rfl, rfl, HM.out (fun h => by have := HD.out.2 h; cases this), m', rfl⟩
            clear HD HH HM
            go_wp2
            go_roundw
            case rel => exact HN.out
            case measure => simp [intOf]; omega
      · obtain rfl : j = L.length := by omega
        have hdj : decide ((L.length : Int) < (L.length : Int)) = false := by simp
        cases fd with
        | true =>
          have HN2 := hid (HG.out.step HP.out)
          have hol2 := HN2.out.len
          have hkk := HK.out
          have hO2 : Own (wr.drewN m) w.heap.size 3 p k cp (ints O) := HO.out.later (below_drewN (Below.refl _ _) m)
          obtain ⟨p', cp', w3, hrun, hO3, hG3⟩ := append_one b hO2 (below_drewN HB.out m).size (by omega)
          have HN : Hid (ROutRel w L (.slice p' (k + 1) cp') w3) := ⟨O ++ [b], p', cp', by simp [HK.out], by have e : (O ++ [b]).length = k + 1 := (by simp [HK.out]); rw [e]; exact hO3, HN2.out, (below_drewN HB.out m).trans (hG3.below hO2 (below_drewN HB.out m).size)⟩
          have hms : Hid (L.length - (k + 1) < L.length - k) := by have e : (O ++ [b]).length = k + 1 := (by simp [HK.out]); rw [e] at hol2; unfold Hid; omega
          have HRUN := hid hrun
          clear hO2 hrun hO3 hG3 hol2 HN2 hkk
          go_wp2_with (first | (at_builtin; refine wpList_append_known rfl _ _ 34 rfl _ _ rfl rfl _ w3 HRUN.out ?_))
          go_roundw
          case rel => exact HN.out
          case measure => exact hms.out
        | false =>
          have he := HG.out.done HP.out
          subst he
          go_wp2
          go_ret
          have hO2 := HO.out.later (below_drewN (Below.refl _ _) m)
          rw [← HK.out] at hO2 ⊢
          exact ⟨p, cp, rfl, hO2, below_drewN HB.out m⟩
end Go.Proofs.Ytfeilkhlapnpoaa
