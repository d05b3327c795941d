import Derived.Test.YtfibidfkhfkfpaaG1
import Derived.Test.YtfibidfkhfkfpaaK1
namespace Go.Proofs.Ytfibidfkhfkfpaa
open Go.RowKit
set_option linter.unusedVariables false

/-- Part of an array of words in a block of its own: from i on. -/
structure ArF (w : World) (b i n : Nat) (f : Nat → Nat) : Prop where
  lt : b < w.heap.size
  fr : ∀ j, w.frozen? ⟨b, j, none⟩ = false
  at_ : ∀ j, i ≤ j → j < n → Wd w b (j * 2) (f j)
theorem Ar.from {w : World} {b n : Nat} {f : Nat → Nat} (h : Ar w b n f) : ArF w b 0 n f := ⟨h.lt, h.fr, fun j _ hj => h.at_ j hj⟩
theorem ArF.set {w : World} {b i n : Nat} {f : Nat → Nat} (h : ArF w b i n f) (u v : Value) : ArF ((w.setCell ⟨b, i * 2, none⟩ u).setCell ⟨b, i * 2 + 1, none⟩ v) b (i + 1) n f :=
  ⟨by simpa using h.lt, fun j => by simpa using h.fr j, fun j h1 h2 => by
    obtain ⟨p1, p2⟩ := h.at_ j (by omega) h2
    exact ⟨cell_set_ne (cell_set_ne p1 (by omega)) (by omega), cell_set_ne (cell_set_ne p2 (by omega)) (by omega)⟩⟩
theorem ArF.drew {w : World} {b i n : Nat} {f : Nat → Nat} (h : ArF w b i n f) : ArF w.drew b i n f := ⟨h.lt, h.fr, h.at_⟩
theorem Dr.congr {w : World} {g gb n : Nat} {c c2 : Nat → Nat} {t : Nat} (h : Dr w g gb n c t) (e : ∀ j, j < n → c j = c2 j) : Dr w g gb n c2 t :=
  ⟨h.all, h.tk, fun i hi => by rw [← e i hi]; exact h.ar i hi, h.ne, h.le, h.big⟩
theorem ArF.drewN {w : World} {b i n : Nat} {f : Nat → Nat} (h : ArF w b i n f) (k : Nat) : ArF (w.drewN k) b i n f := by
  have hb : Below w.heap.size w (w.drewN k) := below_drewN (Below.refl _ _) _
  exact ⟨Nat.lt_of_lt_of_le h.lt hb.size, fun j => by rw [hb.frozen h.lt]; exact h.fr j, fun j h1 h2 => (h.at_ j h1 h2).later hb⟩

/-- Two draws of one list, and the list. -/
structure Two (w0 w' : World) (ga ba gb bb gl n : Nat) (c F : Nat → Nat) (ta tb : Nat) : Prop where
  a : Dr w' ga ba n c ta
  b : Dr w' gb bb n c tb
  l : Ar w' gl (n + 2) F
  below : Below w0.heap.size w0 w'
def L1Rel (w0 : World) (ga ba gb bb gl n : Nat) (c F : Nat → Nat) (v : Value) (w' : World) : Prop :=
  ∃ t : Nat, v = .int .i64 (t : Int) ∧ t ≤ n ∧ Two w0 w' ga ba gb bb gl n c F t 0
def L2Rel (w0 : World) (ga ba gb bb gl n : Nat) (c F : Nat → Nat) (v : Value) (w' : World) : Prop :=
  ∃ t : Nat, v = .int .i64 (t : Int) ∧ t ≤ n ∧ Dr w' ga ba n c n ∧ Dr w' gb bb n c 0 ∧ ArF w' gl t (n + 2) F ∧ Below w0.heap.size w0 w'
def L3Rel (w0 : World) (gb bb n : Nat) (c : Nat → Nat) (v : Value) (w' : World) : Prop :=
  ∃ t : Nat, v = .int .i64 (t : Int) ∧ t ≤ n ∧ Dr w' gb bb n c t ∧ Below w0.heap.size w0 w'

set_option maxRecDepth 100000 in
set_option maxHeartbeats 2000000 in
theorem apart_walk (a : Option Addr) (n0 cap : Nat) (v : Int) (f : Nat → Nat) (w : World) (hR : Ws w a n0 cap f) :
    Calls Try.prog 3 #[.slice a n0 cap, .int .i64 v] w fun e w' => e = .returned (.bool true) ∧ Below w.heap.size w w' := by
  obtain ⟨W, hW, hW1, hW2⟩ := width_in v
  have t1 : -128 < v.tmod 128 := Int.lt_tmod_of_pos v (by omega)
  have t2 : v.tmod 128 < 128 := Int.tmod_lt_of_pos v (by omega)
  obtain ⟨n, hn, hR1, hcase⟩ := first_n hR 4000 (by omega)
  have HR : Hid (Ws w a n cap f) := hR1
  have HP : Hid (Ws w a n0 cap f) := hR
  clear hR1 hR
  go_enter Try.func3, Try.ntmps3
  go_upto_if 22 with fail
  clear hW t1 t2
  go_cut [0] (fun s w' => s = .slice a n cap ∧ w = w')
  case first =>
    rcases hcase with ⟨h1, rfl⟩ | ⟨h1, rfl⟩
    · go_wp2
      go_meet
      case rel => exact ⟨rfl, rfl⟩
    · obtain ⟨b, o, rfl, _⟩ := HP.out.plain (by omega)
      have hcp := HP.out.cap_
      go_wp2
      go_meet
      case rel => exact ⟨rfl, rfl⟩
  case rest =>
    clear HP hcase
    obtain ⟨rfl, rfl⟩ := hcut
    obtain ⟨g1, c1, w1, hrun1, hown1, hb1⟩ := copy_run HR.out (by omega) _ rfl
    obtain ⟨gl, cl, w2, hrun2, hA, hgl, hcl, hb2⟩ := two_run hown1 (by omega) hb1.size _ rfl
    have HA : Hid (Ar w2 gl (n + 2) (withTwo f n)) := hA
    have HB2 : Hid (Below w.heap.size w w2) := hb1.trans hb2
    have hglt := hA.lt
    have hcl2 : (n : Int) ≤ (cl : Int) := by omega
    have HW : Hid (Ws w2 (some ⟨gl, 0, none⟩) n cl (withTwo f n)) := (hA.take (by omega)).ws (by omega) (withTwo_small HR.out.small n)
    clear hown1 hA hb2
    go_upto_region 5 with (first | (at_builtin; have hq_ := MK1; clear hq_; refine wpList_append_known rfl _ _ 22 rfl _ _ rfl rfl _ _ hrun2 ?_) | (at_builtin; refine wpList_append_known rfl _ _ 22 rfl _ _ rfl rfl _ _ hrun1 ?_; obtain ⟨MK1, _⟩ : ∃ m : Nat, m = 0 := ⟨0, rfl⟩))
    clear hrun1 hrun2
    go_upto_region 9 with (first | (go_at_call 7; refine (known_any _).mono ?_; rintro e w5 ⟨rfl, hb5⟩) | (go_at_call 6; have hq_ := DA; clear hq_; refine (new_ok _ n cl (withTwo f n) W _ (HW.out.later hb3) hW1 hW2 (by omega)).mono ?_; rintro e w4 ⟨gb, bb, rfl, DB, hgb, hbb, hbbl, hb4⟩) | (go_at_call 6; refine (new_ok _ n cl (withTwo f n) W _ HW.out hW1 hW2 (by omega)).mono ?_; rintro e w3 ⟨ga, ba, rfl, DA, hga, hba, hbal, hb3⟩))
    obtain ⟨c, hc⟩ : ∃ c : Nat → Nat, c = fun j => cutN (f j) W := ⟨_, rfl⟩
    have HC : Hid (∀ j, c j = cutN (f j) W) := fun j => by rw [hc]
    have hcc : ∀ j, j < n → cutN (withTwo f n j) W = c j := fun j hj => by rw [hc, withTwo_lt f n j hj]
    have H0 : Hid (gl < ga ∧ gl < ba ∧ ga < gb ∧ ga < bb ∧ ba < gb ∧ ba < bb ∧ w.heap.size ≤ gl) := by
      have := DA.lt
      exact ⟨by omega, by omega, by omega, by omega, by omega, by omega, hgl⟩
    have HT0 : Hid (Two w w5 ga ba gb bb gl n c (withTwo f n) 0 0) := ⟨((DA.congr hcc).later hb4).later hb5, (DB.congr hcc).later hb5, ((HA.out.later hb3).later hb4).later hb5, below_call (below_call (below_call HB2.out hb3) hb4) hb5⟩
    clear hc hcc DA DB hb3 hb4 hb5 hga hba hbal hgb hbb hbbl hglt HA HB2 HW hb1 hgl
    go_wp2
    go_loopw [10] (L1Rel w ga ba gb bb gl n c (withTwo f n)) (fun t _ => n - (intOf t).toNat)
    case atStart => exact ⟨0, rfl, Nat.zero_le _, HT0.out⟩
    case round =>
      clear HT0
      obtain ⟨t, rfl, ht, hT⟩ := hrel
      have HT : Hid (Two w wr ga ba gb bb gl n c (withTwo f n) t 0) := hT
      clear hT
      by_cases hlt : t < n
      · go_wp2_with (first | (go_at_call 8; refine (draw_more ga ba n c t _ HT.out.a hlt).mono ?_; rintro e w6 ⟨rfl, DA6, hb6⟩))
        obtain ⟨q1, q2, q3, q4, q5, q6, q7⟩ := H0.out
        exact ⟨⟨t + 1, by go_num, by omega, ⟨DA6, HT.out.b.but hb6 (by omega) (by omega), HT.out.l.but hb6 (by omega), below_but HT.out.below hb6 (by omega)⟩⟩, by simp [intOf]; omega⟩
      · obtain rfl : n = t := by omega
        have hneq := neqW
        have z7 : hiI (7 * B64) = 7 := rfl
        have z8 : hiI (8 * B64) = 8 := rfl
        have z70 : loI (7 * B64) = 0 := rfl
        have z80 : loI (8 * B64) = 0 := rfl
        obtain ⟨y0, y1⟩ := HT.out.l.at_ n (by omega)
        obtain ⟨y2, y3⟩ := HT.out.l.at_ (n + 1) (by omega)
        rw [withTwo_7] at y0 y1
        rw [withTwo_8] at y2 y3
        rw [z7] at y0
        rw [z70] at y1
        rw [z8] at y2
        rw [z80] at y3
        clear z7 z8 z70 z80
        go_wp2
        clear y0 y1 y2 y3
        go_loopw [11] (L2Rel w ga ba gb bb gl n c (withTwo f n)) (fun t _ => n - (intOf t).toNat)
        case atStart => exact ⟨0, rfl, Nat.zero_le _, HT.out.a, HT.out.b, HT.out.l.from, HT.out.below⟩
        case round =>
          clear HT
          obtain ⟨t, rfl, ht2, hDa, hDb, hL, hB⟩ := hrel
          have HDa : Hid (Dr wr ga ba n c n) := hDa
          have HDb : Hid (Dr wr gb bb n c 0) := hDb
          have HL : Hid (ArF wr gl t (n + 2) (withTwo f n)) := hL
          have HB : Hid (Below w.heap.size w wr) := hB
          clear hDa hDb hL hB
          by_cases hlt2 : t < n
          · obtain ⟨b, o, rfl, hcell⟩ := (HR.out.later HB.out).plain (by omega)
            obtain ⟨x0, x1⟩ := hcell t hlt2
            clear hcell
            obtain ⟨y0, y1⟩ := HL.out.at_ t (Nat.le_refl _) (by omega)
            rw [withTwo_lt f n t hlt2] at y0 y1
            have y2 := HL.out.fr
            have hself := wEq_self (hiI (f t)) (loI (f t))
            have hcn : (t : Int) < ((n + 2 : Nat) : Int) := by omega
            go_upto_region 18 with fail
            go_quiet (fail)
            go_upto_region 20 with fail
            go_region
            go_wp2
            obtain ⟨q1, q2, q3, q4, q5, q6, q7⟩ := H0.out
            exact ⟨⟨t + 1, by go_num, by omega, ((HDa.out.drewN _).fresh (b := gl) (by omega) (by omega) _ _).fresh (b := gl) (by omega) (by omega) _ _, ((HDb.out.drewN _).fresh (b := gl) (by omega) (by omega) _ _).fresh (b := gl) (by omega) (by omega) _ _, (HL.out.drewN _).set _ _, ((below_drewN HB.out _).setCell q7 _).setCell q7 _⟩, by simp [intOf]; omega⟩
          · obtain rfl : n = t := by omega
            go_wp2_with (first | (go_at_call 9; refine (taken_any gb bb n c 0 _ HDb.out).mono ?_; rintro e w6 ⟨rfl, rfl⟩) | (go_at_call 10; refine (left_end ga ba n c _ HDa.out).mono ?_; rintro e w7 ⟨rfl, hb7⟩))
            have HDb7 : Hid (Dr w7 gb bb n c 0) := HDb.out.later hb7
            have HB7 : Hid (Below w.heap.size w w7) := below_call HB.out hb7
            go_loopw [12] (L3Rel w gb bb n c) (fun t _ => n - (intOf t).toNat)
            case atStart => exact ⟨0, rfl, Nat.zero_le _, HDb7.out, HB7.out⟩
            case round =>
              clear HDb7 HB7 HDb HDa HL HB hb7
              obtain ⟨t, rfl, ht3, hDb, hB⟩ := hrel
              have HDb : Hid (Dr wr gb bb n c t) := hDb
              have HB : Hid (Below w.heap.size w wr) := hB
              clear hDb hB
              by_cases hlt3 : t < n
              · have hsm := HR.out.small t
                have hct := HC.out t
                have hself := wEq_self (hiI (cutN (f t) W)) (loI (cutN (f t) W))
                have hRr := HR.out.later HB.out
                obtain ⟨b, o, rfl, hcell⟩ := hRr.plain (by omega)
                clear hcell hRr
                go_upto_region 27 with (first | (go_at_call 8; refine (draw_more gb bb n c t _ HDb.out hlt3).mono ?_; rintro e w8 ⟨rfl, D8, hb8⟩; have B8 := below_but HB.out hb8 (by have := H0.out; omega)))
                have X8 := Box.new w8 (hiI (cutN (f t) W)) (loI (cutN (f t) W))
                have hR8 := (HR.out.later B8).alloc (.cells #[.int .u64 (hiI (cutN (f t) W)), .int .u64 (loI (cutN (f t) W))] 25)
                obtain ⟨b', o', he8, hcell8⟩ := hR8.plain (by omega)
                simp only [Option.some.injEq, Addr.mk.injEq, and_true] at he8
                obtain ⟨rfl, rfl⟩ := he8
                have Y8 := hcell8 t hlt3
                have HY : Hid (∀ w' : World, Below (w8.alloc (.cells #[.int .u64 (hiI (cutN (f t) W)), .int .u64 (loI (cutN (f t) W))] 25)).heap.size (w8.alloc (.cells #[.int .u64 (hiI (cutN (f t) W)), .int .u64 (loI (cutN (f t) W))] 25)) w' → (w'.cell? ⟨w8.heap.size, 0, none⟩ = some (.int .u64 (hiI (cutN (f t) W))) ∧ w'.cell? ⟨w8.heap.size, 1, none⟩ = some (.int .u64 (loI (cutN (f t) W))) ∧ w'.cell? ⟨b, o + t * 2, none⟩ = some (.int .u64 (hiI (f t))) ∧ w'.cell? ⟨b, o + t * 2 + 1, none⟩ = some (.int .u64 (loI (f t)))) ∧ Below (w8.alloc (.cells #[.int .u64 (hiI (cutN (f t) W)), .int .u64 (loI (cutN (f t) W))] 25)).heap.size (w8.alloc (.cells #[.int .u64 (hiI (cutN (f t) W)), .int .u64 (loI (cutN (f t) W))] 25)) w') := fun w' hb => ⟨⟨cell_later hb X8.1, cell_later hb X8.2, cell_later hb Y8.1, cell_later hb Y8.2⟩, hb⟩
                clear X8 Y8 hcell8 hR8
                go_region_held3 (fun w' => (w'.cell? ⟨w8.heap.size, 0, none⟩ = some (.int .u64 (hiI (cutN (f t) W))) ∧ w'.cell? ⟨w8.heap.size, 1, none⟩ = some (.int .u64 (loI (cutN (f t) W))) ∧ w'.cell? ⟨b, o + t * 2, none⟩ = some (.int .u64 (hiI (f t))) ∧ w'.cell? ⟨b, o + t * 2 + 1, none⟩ = some (.int .u64 (loI (f t)))) ∧ Below (w8.alloc (.cells #[.int .u64 (hiI (cutN (f t) W)), .int .u64 (loI (cutN (f t) W))] 25)).heap.size (w8.alloc (.cells #[.int .u64 (hiI (cutN (f t) W)), .int .u64 (loI (cutN (f t) W))] 25)) w') (first | exact HY.out _ (Below.refl _ _).drew | exact HY.out _ (keep_call hb9 (Nat.le_refl _) (by assumption))) (first | (go_at_call 11; refine (lcut_any _ _ _ hsm hW1 hW2).mono ?_; rintro e w9 ⟨rfl, hb9⟩))
                go_wp2
                have B9 := below_call (below_call B8 (below1 _ _)).drew hb9
                have D9 := (D8.alloc _).drew.later hb9
                exact ⟨⟨t + 1, by go_num, by omega, D9, B9⟩, by simp [intOf]; omega⟩
              · obtain rfl : n = t := by omega
                go_wp2_with (first | (go_at_call 10; refine (left_end gb bb n c _ HDb.out).mono ?_; rintro e w7 ⟨rfl, hb7⟩))
                go_ret
                exact ⟨rfl, below_call HB.out hb7⟩
end Go.Proofs.Ytfibidfkhfkfpaa
