import Derived.Test.YtejkbeeffllpfaaS6
import Derived.Test.YtejkbeeffllpfaaS7
import Derived.Test.YtejkbeeffllpfaaS8
import Derived.Test.YtejkbeeffllpfaaKD
namespace Go.Proofs.Ytejkbeeffllpfaa
open Go.RowKit
set_option linter.unusedVariables false
set_option linter.unusedSimpArgs false

/-- The script. -/
structure Scr (w : World) (x : Option Addr) (k cap : Nat) (f : Nat → Opx) : Prop where
  cap_ : k ≤ cap
  plain : 0 < k → ∃ b o, x = some ⟨b, o, none⟩ ∧ ∀ i, i < k → w.rangeAt b (o + i * 6) (opxCells (f i)).toList
  ok : ∀ i, i < k → OpxIn w (f i)
theorem size51 : (Try.prog.info? 51).map (·.size) = some 6 := by kernel_rfl
theorem load51 {w : World} {b o : Nat} {X : Opx} (h : w.rangeAt b o (opxCells X).toList) : (Instr.loadAt 51 (.pointer (some ⟨b, o, none⟩))).run Try.prog w = .ok (.agg (opxCells X)) w :=
  run_loadAt_mid (P := Try.prog) w b o 51 (opxCells X).toList _ h Try.underlying51 rfl (by rw [size51]; rfl)
theorem range_later {w w' : World} {b o : Nat} {cs : List Value} (hb : Below w.heap.size w w') (h : w.rangeAt b o cs) : w'.rangeAt b o cs := fun j v hv => cell_later hb (h j v hv)
/-- Two pairs, apart. -/
structure Two (base : Nat) (zA : Sid) (rA : Nat) (zB : Sid) (rB bA bB : Nat) (Ma Mb : Nat → Prop) (w : World) : Prop where
  a : Pr w base zA rA Ma
  b : Pr w base zB rB Mb
  ap : ∀ j, Ma j → ¬ Mb j
  na : ¬ Ma bA ∧ ¬ Ma bB
  nb : ¬ Mb bA ∧ ¬ Mb bB
  lt : bA < w.heap.size ∧ bB < w.heap.size
  a0 : w.cell? ⟨bA, 0, none⟩ = some (.pointer (some ⟨zA.s, 0, none⟩))
  a1 : w.cell? ⟨bA, 1, none⟩ = some (.pointer (some ⟨rA, 0, none⟩))
  b0 : w.cell? ⟨bB, 0, none⟩ = some (.pointer (some ⟨zB.s, 0, none⟩))
  b1 : w.cell? ⟨bB, 1, none⟩ = some (.pointer (some ⟨rB, 0, none⟩))
theorem Two.swap {base : Nat} {zA : Sid} {rA : Nat} {zB : Sid} {rB bA bB : Nat} {Ma Mb : Nat → Prop} {w : World} (h : Two base zA rA zB rB bA bB Ma Mb w) : Two base zB rB zA rA bB bA Mb Ma w :=
  ⟨h.b, h.a, fun j h1 h2 => h.ap j h2 h1, ⟨h.nb.2, h.nb.1⟩, ⟨h.na.2, h.na.1⟩, ⟨h.lt.2, h.lt.1⟩, h.b0, h.b1, h.a0, h.a1⟩
theorem Two.later {base : Nat} {zA : Sid} {rA : Nat} {zB : Sid} {rB bA bB : Nat} {Ma Mb : Nat → Prop} {w w' : World} (hb : Below w.heap.size w w') (h : Two base zA rA zB rB bA bB Ma Mb w) : Two base zA rA zB rB bA bB Ma Mb w' :=
  ⟨h.a.later hb, h.b.later hb, h.ap, h.na, h.nb, ⟨Nat.lt_of_lt_of_le h.lt.1 hb.size, Nat.lt_of_lt_of_le h.lt.2 hb.size⟩, cell_later hb h.a0, cell_later hb h.a1, cell_later hb h.b0, cell_later hb h.b1⟩
theorem Pr.in_ {w : World} {base : Nat} {z : Sid} {r : Nat} {M : Nat → Prop} (h : Pr w base z r M) : ∀ k, M k → base ≤ k ∧ k < w.heap.size := by
  obtain ⟨_, _, _, _, _, _, _, _, h⟩ := h
  exact h
theorem Two.play {base : Nat} {zA : Sid} {rA : Nat} {zB : Sid} {rB bA bB : Nat} {Ma Mb : Nat → Prop} {w w' : World} (h : Two base zA rA zB rB bA bB Ma Mb w) (hl : Left w base zA rA Ma w') : ∃ Ma', Two base zA rA zB rB bA bB Ma' Mb w' := by
  obtain ⟨Ma', h1, h2, h3⟩ := hl
  have hs := h3.size
  refine ⟨Ma', ⟨h1, h.b.but h3 (fun k hk e => h.ap k e hk), fun j hj e => ?_, ⟨fun e => ?_, fun e => ?_⟩, h.nb, ⟨by have := h.lt.1; omega, by have := h.lt.2; omega⟩, cell_but h3 h.a0 h.na.1, cell_but h3 h.a1 h.na.1, cell_but h3 h.b0 h.na.2, cell_but h3 h.b1 h.na.2⟩⟩
  · rcases h2 j hj with h4 | h4
    · exact h.ap j h4 e
    · have := h.b.in_ j e
      omega
  · rcases h2 _ e with h4 | h4
    · exact h.na.1 h4
    · have := h.lt.1
      omega
  · rcases h2 _ e with h4 | h4
    · exact h.na.2 h4
    · have := h.lt.2
      omega
def AllRel (w : World) (zA : Sid) (rA : Nat) (zB : Sid) (rB bA bB k : Nat) (v : Value) (w' : World) : Prop := ∃ (i : Nat) (Ma Mb : Nat → Prop), v = .int .i64 (i : Int) ∧ i ≤ k ∧ Two w.heap.size zA rA zB rB bA bB Ma Mb w' ∧ Below w.heap.size w w'
set_option maxRecDepth 100000 in
set_option maxHeartbeats 4000000 in
theorem all_walk (objects pages : Int) (x : Option Addr) (k cap : Nat) (f : Nat → Opx) (w : World) (hS : Scr w x k cap f) (hk : k ≤ 9223372036854775807) :
    Calls Try.prog 5 #[.int .i64 objects, .int .i64 pages, .slice x k cap] w fun e w' => e = .returned (.bool true) ∧ Below w.heap.size w w' := by
  have HS := hid hS
  clear hS
  by_cases hp : (1 ≤ objects ∧ objects ≤ 64) ∧ (1 ≤ pages ∧ pages ≤ 256)
  · obtain ⟨room, rfl⟩ : ∃ n : Nat, objects = (n : Int) := ⟨objects.toNat, by omega⟩
    obtain ⟨n, rfl⟩ : ∃ n : Nat, pages = (n : Int) := ⟨pages.toNat, by omega⟩
    have h1 : 1 ≤ room ∧ room ≤ 64 := by omega
    have h2 : 1 ≤ n ∧ n ≤ 256 := by omega
    clear hp
    go_enter Try.func5, Try.ntmps5
    go_upto_region 3 with (first | (go_at_call 7; refine (head_any _).mono ?_; rintro e w1 ⟨rfl, B1⟩))
    have HB1 := hid B1
    have hs1 := B1.size
    clear B1
    go_upto_region 4 with (first | (go_at_call 15; refine (begins_ok w.heap.size room n _ h1 h2 hs1).mono ?_; rintro e w2 ⟨zA, rA, Ma, rfl, P2, hM2, B2⟩))
    have HP2 := hid P2
    have HM2 := hid hM2
    have HB2 := hid B2
    clear P2 hM2 B2
    obtain ⟨W2, hW2⟩ : ∃ W2, W2 = w2.alloc (.cells #[.pointer (some ⟨zA.s, 0, none⟩), .pointer (some ⟨rA, 0, none⟩)] 46) := ⟨_, rfl⟩
    have a0 : W2.cell? ⟨w2.heap.size, 0, none⟩ = some (.pointer (some ⟨zA.s, 0, none⟩)) := by rw [hW2]; exact (lies_new w2 #[.pointer (some ⟨zA.s, 0, none⟩), .pointer (some ⟨rA, 0, none⟩)] 46 0 _ rfl).1
    have a1 : W2.cell? ⟨w2.heap.size, 1, none⟩ = some (.pointer (some ⟨rA, 0, none⟩)) := by rw [hW2]; exact (lies_new w2 #[.pointer (some ⟨zA.s, 0, none⟩), .pointer (some ⟨rA, 0, none⟩)] 46 1 _ rfl).1
    have b2 : Below w2.heap.size w2 W2 := by rw [hW2]; exact below1 _ _
    have hsz2 : W2.heap.size = w2.heap.size + 1 := by rw [hW2]; simp
    have HBB2 := hid b2
    have hs2 : w.heap.size ≤ W2.heap.size := by have := HB2.out.size; omega
    have HB3 := hid (below_call (below_call HB1.out HB2.out) b2)
    rw [← hW2]
    clear hW2 b2
    go_upto_region 6 with fail
    have HA1 := hid a1
    have HA0 := hid a0
    clear a0 a1
    go_upto_region 7 with (first | (go_at_call 15; refine (begins_ok w.heap.size room n _ h1 h2 hs2).mono ?_; rintro e w3 ⟨zB, rB, Mb, rfl, P3, hM3, B3⟩))
    obtain ⟨W3, hW3⟩ : ∃ W3, W3 = w3.alloc (.cells #[.pointer (some ⟨zB.s, 0, none⟩), .pointer (some ⟨rB, 0, none⟩)] 46) := ⟨_, rfl⟩
    have b3 : Below w3.heap.size w3 W3 := by rw [hW3]; exact below1 _ _
    have hsz3 : W3.heap.size = w3.heap.size + 1 := by rw [hW3]; simp
    have bb := below_call B3 b3
    have hss := B3.size
    have HT : Hid (Two w.heap.size zA rA zB rB w2.heap.size w3.heap.size Ma Mb W3) := hid (by
      refine ⟨(HP2.out.later HBB2.out).later bb, P3.later b3, fun j h4 h5 => ?_, ⟨fun e => ?_, fun e => ?_⟩, ⟨fun e => ?_, fun e => ?_⟩, ⟨by omega, by omega⟩, cell_later bb HA0.out, cell_later bb HA1.out, ?_, ?_⟩
      · have := HM2.out j h4; have := hM3 j h5; omega
      · have := HM2.out _ e; omega
      · have := HM2.out _ e; omega
      · have := hM3 _ e; omega
      · have := hM3 _ e; omega
      · rw [hW3]; exact (lies_new w3 #[.pointer (some ⟨zB.s, 0, none⟩), .pointer (some ⟨rB, 0, none⟩)] 46 0 _ rfl).1
      · rw [hW3]; exact (lies_new w3 #[.pointer (some ⟨zB.s, 0, none⟩), .pointer (some ⟨rB, 0, none⟩)] 46 1 _ rfl).1)
    have HB := hid (below_call HB3.out bb)
    rw [← hW3]
    obtain ⟨bA, hbA⟩ : ∃ bA, bA = w2.heap.size := ⟨_, rfl⟩
    obtain ⟨bB, hbB⟩ : ∃ bB, bB = w3.heap.size := ⟨_, rfl⟩
    rw [← hbA, ← hbB] at HT ⊢
    clear hW3 b3 bb P3 hM3 B3 HA0 HA1 HB3 HB2 HM2 HP2 HBB2 hsz2 hsz3 hss hs2 hs1 HB1 hbA hbB h1 h2
    go_upto_region 10 with fail
    go_loopw [10] (AllRel w zA rA zB rB bA bB k) (fun v _ => k - ivN v)
    case atStart => exact ⟨0, _, _, rfl, Nat.zero_le _, HT.out, HB.out⟩
    case round =>
      clear HT HB
      obtain ⟨i, Ma, Mb, rfl, hi, hT, hB⟩ := hrel
      have HT := hid hT
      have HB := hid hB
      clear hT hB
      by_cases hlt : i < k
      · have hd : decide ((i : Int) < (k : Int)) = true := decide_eq_true (by omega)
        have x0 := HT.out.a0
        have x1 := HT.out.a1
        obtain ⟨b, o, rfl, hc⟩ := HS.out.plain (by omega)
        have HSC := hid (hc i hlt)
        have hcap := HS.out.cap_
        have HOP := hid (HS.out.ok i hlt)
        clear hc
        go_upto_region 13 with fail
        obtain ⟨W5, hW5⟩ : ∃ W5, W5 = wr.alloc (.cells #[.pointer (some ⟨zA.s, 0, none⟩), .pointer (some ⟨rA, 0, none⟩)] 46) := ⟨_, rfl⟩
        have e0 : Lies W5 ⟨wr.heap.size, 0, none⟩ (.pointer (some ⟨zA.s, 0, none⟩)) := by rw [hW5]; exact lies_new wr #[.pointer (some ⟨zA.s, 0, none⟩), .pointer (some ⟨rA, 0, none⟩)] 46 0 _ rfl
        have e1 : Lies W5 ⟨wr.heap.size, 1, none⟩ (.pointer (some ⟨rA, 0, none⟩)) := by rw [hW5]; exact lies_new wr #[.pointer (some ⟨zA.s, 0, none⟩), .pointer (some ⟨rA, 0, none⟩)] 46 1 _ rfl
        have b5 : Below wr.heap.size wr W5 := by rw [hW5]; exact below1 _ _
        have hs5 : wr.heap.size < W5.heap.size := by rw [hW5]; simp
        have HE0 := hid e0
        have HE1 := hid e1
        have HLB := hid b5
        have HT5 := hid (HT.out.later b5)
        rw [← hW5]
        clear hW5 e0 e1 b5 x0 x1
        have y1 : W5.cell? ⟨b, o + i * 6 + 1, none⟩ = some (.int .i64 (f i).wh) := range_later (below_call HB.out HLB.out) HSC.out 1 _ rfl
        rcases Bool.eq_false_or_eq_true (bits BinOp.and .i64 (f i).wh 1 == 1) with hq | hq
        · have p0 := HT5.out.b0
          have p1 := HT5.out.b1
          have p2 := HE0.out.1
          have p3 := HE0.out.2
          have p4 := HE1.out.1
          have p5 := HE1.out.2
          go_upto_region 15 with fail
          obtain ⟨W6, hW6⟩ : ∃ W6, W6 = (W5.setCell ⟨wr.heap.size, 0, none⟩ (.pointer (some ⟨zB.s, 0, none⟩))).setCell ⟨wr.heap.size, 1, none⟩ (.pointer (some ⟨rB, 0, none⟩)) := ⟨_, rfl⟩
          have c0 : W6.cell? ⟨wr.heap.size, 0, none⟩ = some (.pointer (some ⟨zB.s, 0, none⟩)) := by rw [hW6]; exact ((HE0.out.put).other (by simp)).1
          have c1 : W6.cell? ⟨wr.heap.size, 1, none⟩ = some (.pointer (some ⟨rB, 0, none⟩)) := by rw [hW6]; exact ((HE1.out.other (by simp)).put).1
          have hBU : But (· = wr.heap.size) W5 W6 := by rw [hW6]; exact ((But.refl (· = wr.heap.size) W5).setCell (p := ⟨wr.heap.size, 0, none⟩) (show wr.heap.size = wr.heap.size from rfl) _).setCell (p := ⟨wr.heap.size, 1, none⟩) (show wr.heap.size = wr.heap.size from rfl) _
          have b6 : Below wr.heap.size wr W6 := But.below HLB.out hBU (fun k e => by omega)
          have HT6 := hid (HT.out.later b6).swap
          have HB6 := hid (below_call HB.out b6)
          rw [← hW6]
          clear hW6 hBU b6 p0 p1 p2 p3 p4 p5 hq y1
          have HDA : Hid (0 < (f i).md → ∀ j, Blk (f i).da j → j < w.heap.size) := hid (fun h0 j hj => blk_lt HOP.out.rd h0 j hj)
          have hnM : ¬ Mb wr.heap.size := fun e => by have := HT.out.b.in_ _ e; omega
          have HC0 := hid c0
          have HC1 := hid c1
          have HS5 : Hid (∀ U, But Mb W6 U → (U.cell? ⟨wr.heap.size, 0, none⟩ = some (.pointer (some ⟨zB.s, 0, none⟩)) ∧ U.cell? ⟨wr.heap.size, 1, none⟩ = some (.pointer (some ⟨rB, 0, none⟩)) ∧ U.cell? ⟨b, o + i * 6, none⟩ = some (.int .i64 (f i).kd) ∧ U.cell? ⟨b, o + i * 6 + 1, none⟩ = some (.int .i64 (f i).wh) ∧ U.cell? ⟨b, o + i * 6 + 2, none⟩ = some (.int .i64 (f i).id) ∧ U.cell? ⟨b, o + i * 6 + 3, none⟩ = some (.int .i64 (f i).of) ∧ U.cell? ⟨b, o + i * 6 + 4, none⟩ = some (.int .i64 (f i).nn) ∧ U.cell? ⟨b, o + i * 6 + 5, none⟩ = some (.slice (f i).da (f i).md (f i).cd)) ∧ But Mb W6 U) := hid (fun U hU => by
            have h := range_later (But.below HB6.out hU (fun k hk => (HT6.out.a.in_ k hk).1)) HSC.out
            exact ⟨⟨cell_but hU HC0.out hnM, cell_but hU HC1.out hnM, h 0 _ rfl, h 1 _ rfl, h 2 _ rfl, h 3 _ rfl, h 4 _ rfl, h 5 _ rfl⟩, hU⟩)
          clear c0 c1
          go_region_held3 (fun U => (U.cell? ⟨wr.heap.size, 0, none⟩ = some (.pointer (some ⟨zB.s, 0, none⟩)) ∧ U.cell? ⟨wr.heap.size, 1, none⟩ = some (.pointer (some ⟨rB, 0, none⟩)) ∧ U.cell? ⟨b, o + i * 6, none⟩ = some (.int .i64 (f i).kd) ∧ U.cell? ⟨b, o + i * 6 + 1, none⟩ = some (.int .i64 (f i).wh) ∧ U.cell? ⟨b, o + i * 6 + 2, none⟩ = some (.int .i64 (f i).id) ∧ U.cell? ⟨b, o + i * 6 + 3, none⟩ = some (.int .i64 (f i).of) ∧ U.cell? ⟨b, o + i * 6 + 4, none⟩ = some (.int .i64 (f i).nn) ∧ U.cell? ⟨b, o + i * 6 + 5, none⟩ = some (.slice (f i).da (f i).md (f i).cd)) ∧ But Mb W6 U) (first | exact HS5.out _ hb7.out | exact HS5.out _ (But.of (Below.refl _ _).drew)) (first
            | (go_at_call 16; refine (play_any w.heap.size zB rB Mb (f i) _ (HT6.out.later (Below.refl _ _).drew).a (HOP.out.later (below_call HB6.out (Below.refl _ _).drew)) HDA.out).mono ?_; rintro e w7 ⟨rfl, L7_⟩; have L7 := hid L7_; have hb7 : Hid (But Mb W6 w7) := hid (by obtain ⟨_, _, _, b7⟩ := L7_; exact (But.of (Below.refl W6.heap.size W6).drew).trans b7); clear L7_))
          have HB7 : Hid (Below w.heap.size w w7) := hid (But.below HB6.out hb7.out (fun k hk => (HT6.out.a.in_ k hk).1))
          obtain ⟨M7, T7⟩ := (HT6.out.later (Below.refl _ _).drew).play L7.out
          have HT7 := hid T7.swap
          clear T7 L7 hb7
          have HSS : Hid (∀ U, Below w7.heap.size w7 U → (U.cell? ⟨bA, 0, none⟩ = some (.pointer (some ⟨zA.s, 0, none⟩)) ∧ U.cell? ⟨bA, 1, none⟩ = some (.pointer (some ⟨rA, 0, none⟩)) ∧ U.cell? ⟨bB, 0, none⟩ = some (.pointer (some ⟨zB.s, 0, none⟩)) ∧ U.cell? ⟨bB, 1, none⟩ = some (.pointer (some ⟨rB, 0, none⟩)) ∧ U.cell? ⟨b, o + i * 6 + 2, none⟩ = some (.int .i64 (f i).id)) ∧ Below w7.heap.size w7 U) := hid (fun U hU => by
            have h := HT7.out.later hU
            exact ⟨⟨h.a0, h.a1, h.b0, h.b1, range_later (below_call HB7.out hU) HSC.out 2 _ rfl⟩, hU⟩)
          go_upto_region 16 with fail
          go_region_held3 (fun U => (U.cell? ⟨bA, 0, none⟩ = some (.pointer (some ⟨zA.s, 0, none⟩)) ∧ U.cell? ⟨bA, 1, none⟩ = some (.pointer (some ⟨rA, 0, none⟩)) ∧ U.cell? ⟨bB, 0, none⟩ = some (.pointer (some ⟨zB.s, 0, none⟩)) ∧ U.cell? ⟨bB, 1, none⟩ = some (.pointer (some ⟨rB, 0, none⟩)) ∧ U.cell? ⟨b, o + i * 6 + 2, none⟩ = some (.int .i64 (f i).id)) ∧ Below w7.heap.size w7 U) (first | exact HSS.out _ hb2.out | exact HSS.out _ hb1.out | exact HSS.out _ (Below.refl _ _).drew) (first
            | (go_at_call 21; refine (told_any w.heap.size zB rB _ (f i).id _ (HT7.out.later hb1.out).b HOP.out.hid).mono ?_; rintro e w9 ⟨rfl, B9⟩; have hb2 := hid (below_call hb1.out B9))
            | (go_at_call 21; refine (told_any w.heap.size zA rA _ (f i).id _ (HT7.out.later (Below.refl _ _).drew).a HOP.out.hid).mono ?_; rintro e w8 ⟨rfl, B8⟩; have hb1 := hid (below_call (Below.refl w7.heap.size w7).drew B8)))
          go_wp2
          exact ⟨⟨i + 1, _, _, rfl, by omega, HT7.out.later hb2.out, below_call HB7.out hb2.out⟩, by simp [ivN]; omega⟩
        · go_upto_region 15 with fail
          have HT6 := HT5
          have HB6 := hid (below_call HB.out HLB.out)
          have c0 := HE0.out.1
          have c1 := HE1.out.1
          clear hq y1
          have HDA : Hid (0 < (f i).md → ∀ j, Blk (f i).da j → j < w.heap.size) := hid (fun h0 j hj => blk_lt HOP.out.rd h0 j hj)
          have hnM : ¬ Ma wr.heap.size := fun e => by have := HT.out.a.in_ _ e; omega
          have HC0 := hid c0
          have HC1 := hid c1
          have HS5 : Hid (∀ U, But Ma W5 U → (U.cell? ⟨wr.heap.size, 0, none⟩ = some (.pointer (some ⟨zA.s, 0, none⟩)) ∧ U.cell? ⟨wr.heap.size, 1, none⟩ = some (.pointer (some ⟨rA, 0, none⟩)) ∧ U.cell? ⟨b, o + i * 6, none⟩ = some (.int .i64 (f i).kd) ∧ U.cell? ⟨b, o + i * 6 + 1, none⟩ = some (.int .i64 (f i).wh) ∧ U.cell? ⟨b, o + i * 6 + 2, none⟩ = some (.int .i64 (f i).id) ∧ U.cell? ⟨b, o + i * 6 + 3, none⟩ = some (.int .i64 (f i).of) ∧ U.cell? ⟨b, o + i * 6 + 4, none⟩ = some (.int .i64 (f i).nn) ∧ U.cell? ⟨b, o + i * 6 + 5, none⟩ = some (.slice (f i).da (f i).md (f i).cd)) ∧ But Ma W5 U) := hid (fun U hU => by
            have h := range_later (But.below HB6.out hU (fun k hk => (HT6.out.a.in_ k hk).1)) HSC.out
            exact ⟨⟨cell_but hU HC0.out hnM, cell_but hU HC1.out hnM, h 0 _ rfl, h 1 _ rfl, h 2 _ rfl, h 3 _ rfl, h 4 _ rfl, h 5 _ rfl⟩, hU⟩)
          clear c0 c1
          go_region_held3 (fun U => (U.cell? ⟨wr.heap.size, 0, none⟩ = some (.pointer (some ⟨zA.s, 0, none⟩)) ∧ U.cell? ⟨wr.heap.size, 1, none⟩ = some (.pointer (some ⟨rA, 0, none⟩)) ∧ U.cell? ⟨b, o + i * 6, none⟩ = some (.int .i64 (f i).kd) ∧ U.cell? ⟨b, o + i * 6 + 1, none⟩ = some (.int .i64 (f i).wh) ∧ U.cell? ⟨b, o + i * 6 + 2, none⟩ = some (.int .i64 (f i).id) ∧ U.cell? ⟨b, o + i * 6 + 3, none⟩ = some (.int .i64 (f i).of) ∧ U.cell? ⟨b, o + i * 6 + 4, none⟩ = some (.int .i64 (f i).nn) ∧ U.cell? ⟨b, o + i * 6 + 5, none⟩ = some (.slice (f i).da (f i).md (f i).cd)) ∧ But Ma W5 U) (first | exact HS5.out _ hb7.out | exact HS5.out _ (But.of (Below.refl _ _).drew)) (first
            | (go_at_call 16; refine (play_any w.heap.size zA rA Ma (f i) _ (HT6.out.later (Below.refl _ _).drew).a (HOP.out.later (below_call HB6.out (Below.refl _ _).drew)) HDA.out).mono ?_; rintro e w7 ⟨rfl, L7_⟩; have L7 := hid L7_; have hb7 : Hid (But Ma W5 w7) := hid (by obtain ⟨_, _, _, b7⟩ := L7_; exact (But.of (Below.refl W5.heap.size W5).drew).trans b7); clear L7_))
          have HB7 : Hid (Below w.heap.size w w7) := hid (But.below HB6.out hb7.out (fun k hk => (HT6.out.a.in_ k hk).1))
          obtain ⟨M7, T7⟩ := (HT6.out.later (Below.refl _ _).drew).play L7.out
          have HT7 := hid T7
          clear T7 L7 hb7
          have HSS : Hid (∀ U, Below w7.heap.size w7 U → (U.cell? ⟨bA, 0, none⟩ = some (.pointer (some ⟨zA.s, 0, none⟩)) ∧ U.cell? ⟨bA, 1, none⟩ = some (.pointer (some ⟨rA, 0, none⟩)) ∧ U.cell? ⟨bB, 0, none⟩ = some (.pointer (some ⟨zB.s, 0, none⟩)) ∧ U.cell? ⟨bB, 1, none⟩ = some (.pointer (some ⟨rB, 0, none⟩)) ∧ U.cell? ⟨b, o + i * 6 + 2, none⟩ = some (.int .i64 (f i).id)) ∧ Below w7.heap.size w7 U) := hid (fun U hU => by
            have h := HT7.out.later hU
            exact ⟨⟨h.a0, h.a1, h.b0, h.b1, range_later (below_call HB7.out hU) HSC.out 2 _ rfl⟩, hU⟩)
          go_upto_region 16 with fail
          go_region_held3 (fun U => (U.cell? ⟨bA, 0, none⟩ = some (.pointer (some ⟨zA.s, 0, none⟩)) ∧ U.cell? ⟨bA, 1, none⟩ = some (.pointer (some ⟨rA, 0, none⟩)) ∧ U.cell? ⟨bB, 0, none⟩ = some (.pointer (some ⟨zB.s, 0, none⟩)) ∧ U.cell? ⟨bB, 1, none⟩ = some (.pointer (some ⟨rB, 0, none⟩)) ∧ U.cell? ⟨b, o + i * 6 + 2, none⟩ = some (.int .i64 (f i).id)) ∧ Below w7.heap.size w7 U) (first | exact HSS.out _ hb2.out | exact HSS.out _ hb1.out | exact HSS.out _ (Below.refl _ _).drew) (first
            | (go_at_call 21; refine (told_any w.heap.size zB rB _ (f i).id _ (HT7.out.later hb1.out).b HOP.out.hid).mono ?_; rintro e w9 ⟨rfl, B9⟩; have hb2 := hid (below_call hb1.out B9))
            | (go_at_call 21; refine (told_any w.heap.size zA rA _ (f i).id _ (HT7.out.later (Below.refl _ _).drew).a HOP.out.hid).mono ?_; rintro e w8 ⟨rfl, B8⟩; have hb1 := hid (below_call (Below.refl w7.heap.size w7).drew B8)))
          go_wp2
          exact ⟨⟨i + 1, _, _, rfl, by omega, HT7.out.later hb2.out, below_call HB7.out hb2.out⟩, by simp [ivN]; omega⟩
      · obtain rfl : k = i := by omega
        have hd : decide ((k : Int) < (k : Int)) = false := by simp
        have x0 := HT.out.a0
        have x1 := HT.out.a1
        go_wp2_with (first
          | (go_at_call 20; refine (bytes_any w.heap.size zB rB _ _ HT9.out.b).mono ?_; rintro e w10 ⟨rfl, B10⟩; have HB10 := hid (below_call HB9.out B10))
          | (go_at_call 20; refine (bytes_any w.heap.size zA rA _ _ HT.out.a).mono ?_; rintro e w9 ⟨rfl, B9⟩; have HT9 := hid (HT.out.later B9); have HB9 := hid (below_call HB.out B9); have z0 := HT9.out.b0; have z1 := HT9.out.b1))
        go_ret
        exact ⟨rfl, HB10.out⟩
  · have HP := hid hp
    clear hp
    go_enter Try.func5, Try.ntmps5
    go_wp2_with (first
      | (go_at_call 7; refine (head_any _).mono ?_; rintro e w1 ⟨rfl, B1⟩)
      | (go_at_call 15; refine (begins_bad objects pages _ HP.out).mono ?_; rintro e w2 ⟨rfl, B2⟩))
    go_ret
    exact ⟨rfl, below_call (below_call B1 B2) (below1 _ _)⟩
end Go.Proofs.Ytejkbeeffllpfaa
