import Derived.Test.YticgammbjcdobaaMB
import Derived.Deep.MidRow
namespace Go.Proofs.Yticgammbjcdobaa
open Go.RowKit
set_option linter.unusedVariables false
set_option linter.unusedSimpArgs false
abbrev I64 (x : Int) : Prop := -9223372036854775808 ≤ x ∧ x ≤ 9223372036854775807
abbrev U64 (x : Nat) : Prop := x < 18446744073709551616
theorem kint {x : Int} (h : I64 x) : Kv 3 (.int .i64 x) := ⟨_, Maps.keyOf_int_mk Try.underlying3 (WalkArith.wf_i64 (by omega))⟩
abbrev wdV (h l : Nat) : Value := .agg #[.int .u64 (h : Int), .int .u64 (l : Int)]
set_option maxRecDepth 100000 in
theorem kword {h l : Nat} (h1 : U64 h) (h2 : U64 l) : Kv 29 (wdV h l) := by
  have w2 : (Lit.int .u64 (h : Int)).wf = true := WalkArith.wf_u64 (by omega)
  have w3 : (Lit.int .u64 (l : Int)).wf = true := WalkArith.wf_u64 (by omega)
  have kt : Try.prog.keyType 29 = true := by kernel_rfl
  have c2 : Try.prog.cellsOf 29 = 2 := by kernel_rfl
  have c4 : Try.prog.cellsOf 27 = 1 := by kernel_rfl
  have n1 : Try.prog.types.size + 1 = (Try.prog.types.size - 1) + 2 := by have : 1 ≤ Try.prog.types.size := of_decide_eq_true (by kernel_rfl); omega
  have k2 : ∀ m, Try.prog.keyLits (m + 1) 27 [.int .u64 (h : Int)] = some [.int .u64 (h : Int)] := by intro m; simp [Program.keyLits, Try.underlying27, w2]
  have k3 : ∀ m, Try.prog.keyLits (m + 1) 27 [.int .u64 (l : Int)] = some [.int .u64 (l : Int)] := by intro m; simp [Program.keyLits, Try.underlying27, w3]
  have k4 : ∀ m, Try.prog.keyLits (m + 2) 29 [.int .u64 (h : Int), .int .u64 (l : Int)] = some [.int .u64 (h : Int), .int .u64 (l : Int)] := by
    intro m
    unfold Program.keyLits
    rw [Try.underlying29]
    simp [c2, c4, k2, k3]
  have hf : (wdV h l).formed Try.prog 29 = true := by
    simp [Value.formed, Try.underlying29, c2]
  refine ⟨.string (keyBytes [.int .u64 (h : Int), .int .u64 (l : Int)]), ?_⟩
  unfold keyOf
  rw [Try.underlying29]
  simp only
  rw [kt, hf, n1, show (wdV h l).cells.toList = [.int .u64 (h : Int), .int .u64 (l : Int)] from rfl, k4]
  rfl
theorem mapM_some {α β : Type} {f : α → Option β} : ∀ (l : List α), (∀ x ∈ l, ∃ y, f x = some y) → ∃ ys, l.mapM f = some ys
  | [], _ => ⟨[], by simp⟩
  | x :: l, h => by
    obtain ⟨y, hy⟩ := h x List.mem_cons_self
    obtain ⟨ys, hys⟩ := mapM_some l (fun z hz => h z (List.mem_cons_of_mem _ hz))
    exact ⟨y :: ys, by simp [List.mapM_cons, hy, hys]⟩
/-- A form: twenty-four bytes. -/
abbrev fmV (F : List Nat) : Value := .agg (u8s F).toArray
set_option maxRecDepth 100000 in
theorem kform {F : List Nat} (hl : F.length = 24) (hs : ∀ x ∈ F, x < 256) : Kv 95 (fmV F) := by
  have kt : Try.prog.keyType 95 = true := by kernel_rfl
  have c2 : Try.prog.cellsOf 95 = 24 := by kernel_rfl
  have c4 : Try.prog.cellsOf 5 = 1 := by kernel_rfl
  have n1 : Try.prog.types.size + 1 = (Try.prog.types.size - 1) + 2 := by have : 1 ≤ Try.prog.types.size := of_decide_eq_true (by kernel_rfl); omega
  have k4 : ∀ m, ∃ ls, Try.prog.keyLits (m + 2) 95 (u8s F) = some ls := by
    intro m
    obtain ⟨ys, hys⟩ := mapM_some (f := fun i => Try.prog.keyLits (m + 1) 5 (((u8s F).drop (i * 1)).take 1)) (List.range 24) (fun i hi => by
      have hi' : i < F.length := by rw [hl]; exact List.mem_range.1 hi
      have hb := hs F[i] (List.getElem_mem hi')
      have hw : (Lit.int .u8 (F[i] : Int)).wf = true := WalkArith.wf_u8 (by omega)
      have e : ((u8s F).drop (i * 1)).take 1 = [.int .u8 (F[i] : Int)] := by
        rw [Nat.mul_one, List.drop_eq_getElem_cons (by rw [u8s_length]; exact hi')]
        simp [u8s]
      refine ⟨[.int .u8 (F[i] : Int)], ?_⟩
      rw [e]
      simp [Program.keyLits, Try.underlying5, hw])
    refine ⟨ys.flatten, ?_⟩
    unfold Program.keyLits
    rw [Try.underlying95]
    simp only [c2, c4, u8s_length, hl, if_true]
    rw [hys]
    rfl
  have hf : (fmV F).formed Try.prog 95 = true := by
    simp [Value.formed, Try.underlying95, c2, u8s_length, hl]
  obtain ⟨ls, hls⟩ := k4 (Try.prog.types.size - 1)
  refine ⟨.string (keyBytes ls), ?_⟩
  unfold keyOf
  rw [Try.underlying95]
  simp only
  rw [kt, hf, n1, show (fmV F).cells.toList = u8s F from by simp [Value.cells], hls]
  rfl
theorem u8s_inj {F G : List Nat} (h : u8s F = u8s G) : F = G := by
  unfold u8s at h
  refine List.map_inj_right (f := fun (n : Nat) => Value.int .u8 (n : Int)) (fun a b e => ?_) |>.1 h
  simp at e
  omega
theorem fmV_inj {F G : List Nat} (h : fmV F = fmV G) : F = G := u8s_inj (by simpa using h)
theorem wdV_inj {a b c d : Nat} (h : wdV a b = wdV c d) : a = c ∧ b = d := by
  simp at h
  omega
structure Cp where
  o : Int
  h : Nat
  l : Nat
def Cp.far (c : Cp) : Prop := I64 c.o ∧ U64 c.h ∧ U64 c.l
abbrev capV (c : Cp) : Value := .agg #[.int .i64 c.o, .int .u64 (c.h : Int), .int .u64 (c.l : Int)]
def hasF (c : Cp) : Bool := decide (0 ≤ c.o ∧ c.o ≤ 4611686018427387904)
def frm (c : Cp) : List Nat := leL c.o.toNat 8 ++ leL c.l 8 ++ leL c.h 8
theorem frm_len (c : Cp) : (frm c).length = 24 := by simp [frm, leL_length]
theorem frm_sml (c : Cp) : ∀ x ∈ frm c, x < 256 := by
  intro x hx
  simp only [frm, List.mem_append] at hx
  rcases hx with (hx | hx) | hx <;> exact leL_small _ _ x hx
theorem kfrm (c : Cp) : Kv 95 (fmV (frm c)) := kform (frm_len c) (frm_sml c)
def zF : List Nat := List.replicate 24 0
def fmR (c : Cp) : List Nat := if hasF c = true then frm c else zF
theorem infoFm : (Try.prog.info? 95).map (·.size) = some 24 := by kernel_rfl
theorem ldFm {w : World} {b o : Nat} {L : List Value} (h : w.rangeAt b o L) (hl : L.length = 24) : (Instr.loadAt 95 (.pointer (some ⟨b, o, none⟩))).run Try.prog w = .ok (.agg L.toArray) w :=
  run_loadAt_mid w b o 95 L _ h Try.underlying95 rfl (by rw [infoFm, hl])
theorem stFm {w : World} {b o : Nat} {L : List Value} (h : w.there b o 24) (hl : L.length = 24) (h1 : ∀ v ∈ L, v.oneCell' = true) : (Instr.storeAt 95 (.pointer (some ⟨b, o, none⟩)) (.agg L.toArray)).run Try.prog w = .ok () (w.setCells b o L) :=
  run_storeAt_mid w b o 95 L.toArray (by simpa [hl] using h) (by rw [infoFm]; simp [hl]) (all_oneCell_toArray h1)
theorem lvFm {w : World} {b o : Nat} {L : List Value} (h : w.rangeAt b o L) (hl : L.length = 24) : (loadVar 95 ⟨b, o, none⟩).run Try.prog w = .ok (.agg L.toArray) w :=
  run_loadVar_mid w b o 95 L _ h Try.underlying95 rfl (by rw [infoFm, hl])
theorem rfm_cap (o : Int) (h l : Nat) : rfm 1 ⟨0, o, h, l, [], 0⟩ = hasF ⟨o, h, l⟩ := by
  rw [rfm_z rfl]
  have e1 : wi 1 0 10 = true := by decide
  have e2 : wi 0 0 65535 = true := by decide
  have e3 : tnB (unt 1 ⟨0, o, h, l, [], 0⟩) = true := by simp [unt, tnB]
  rw [e1, e3]
  simp only [e2, hasF, wi]
  by_cases h1 : 0 ≤ o <;> by_cases h2 : o ≤ 4611686018427387904 <;> simp [h1, h2]
theorem rly_cap (o : Int) (h l : Nat) : rly 1 ⟨0, o, h, l, [], 0⟩ = [0, 0] ++ frm ⟨o, h, l⟩ := by
  rw [rly_z rfl, told_c _ (.inl rfl)]
  rfl
set_option maxRecDepth 100000 in
set_option maxHeartbeats 4000000 in
theorem formOf_any (c : Cp) (hc : c.far) (w : World) :
    Calls Try.prog 44 #[capV c] w fun e w' => e = .returned (.tuple #[fmV (fmR c), .bool (hasF c)]) ∧ Below w.heap.size w w' := by
  obtain ⟨o, h, l⟩ := c
  obtain ⟨W, hW⟩ : ∃ W, W = (w.alloc (Obj.cells #[.int .i64 o, .int .u64 (h : Int), .int .u64 (l : Int)] 31)).alloc (Obj.cells (u8s zF).toArray 95) := ⟨_, rfl⟩
  have hB : Below w.heap.size w W := by rw [hW]; exact below2 _ _ _
  have HX1 : Hid (Bx W (w.heap.size + 1) (u8s zF)) := by rw [hW]; have := Bx.new (w.alloc (Obj.cells #[.int .i64 o, .int .u64 (h : Int), .int .u64 (l : Int)] 31)) (u8s zF) 95; simp at this; exact this
  have c0 : W.cell? ⟨w.heap.size, 0, none⟩ = some (.int .i64 o) := by rw [hW]; simp [go_sem]
  have c1 : W.cell? ⟨w.heap.size, 1, none⟩ = some (.int .u64 (h : Int)) := by rw [hW]; simp [go_sem]
  have c2 : W.cell? ⟨w.heap.size, 2, none⟩ = some (.int .u64 (l : Int)) := by rw [hW]; simp [go_sem]
  have HB := hid hB
  have hW2 : W = (w.alloc (Obj.cells #[.int .i64 o, .int .u64 (h : Int), .int .u64 (l : Int)] 31)).alloc (Obj.cells #[.int .u8 0, .int .u8 0, .int .u8 0, .int .u8 0, .int .u8 0, .int .u8 0, .int .u8 0, .int .u8 0, .int .u8 0, .int .u8 0, .int .u8 0, .int .u8 0, .int .u8 0, .int .u8 0, .int .u8 0, .int .u8 0, .int .u8 0, .int .u8 0, .int .u8 0, .int .u8 0, .int .u8 0, .int .u8 0, .int .u8 0, .int .u8 0] 95) := hW
  have HW := hid hW2
  have hR : Rr W (rC ⟨0, o, h, l, [], 0⟩ ⟨none, 0, 0⟩) ⟨0, o, h, l, [], 0⟩ := ⟨⟨none, 0, 0⟩, rfl, row_nil W, hc.2.1, hc.2.2⟩
  clear hB hW hW2
  cases hf : hasF ⟨o, h, l⟩ with
  | true =>
    have hA := answer_ok 1 _ _ W hR (by rw [rfm_cap]; exact hf)
    rw [rly_cap] at hA
    have HA := hid hA
    have eF : fmR ⟨o, h, l⟩ = frm ⟨o, h, l⟩ := by unfold fmR; rw [if_pos hf]
    rw [eF]
    have HFl := hid (frm_len ⟨o, h, l⟩)
    generalize frm ⟨o, h, l⟩ = F at HA HFl ⊢
    clear hA hR hf eF
    go_enter Try.func44, Try.ntmps44
    go_upto_region 1 with fail
    rw [← HW.out]
    go_upto_region 2 with (first | (go_at_call 52; refine HA.out.mono ?_; rintro x w2 ⟨a2, n2, k2, rfl, ho2, hb2⟩; have HO2 := hid ho2; have HB2 := hid hb2; clear ho2 hb2))
    have hn2 : n2 = 26 := by rw [← HO2.out.len, List.length_append, HFl.out]; rfl
    subst hn2
    obtain ⟨gb, go, rfl, hcell⟩ := HO2.out.read.plain (by omega)
    have hcap := HO2.out.read.cap_
    have HRg : Hid (w2.rangeAt gb (go + 2) (u8s F)) := fun j v hv => by
      have hj := (List.getElem?_eq_some_iff.1 hv).1
      rw [u8s_length] at hj
      have := hcell (j + 2) (by rw [List.length_append]; simp; omega)
      rw [show go + 2 + j = go + (j + 2) by omega, this]
      rw [← hv]
      simp [u8s, hj]
    have HLD := hid (ldFm HRg.out (by rw [u8s_length]; exact HFl.out))
    have HX2 := hid (HX1.out.later HB2.out)
    have HST := hid (stFm (L := u8s F) (by have := HX2.out.there; rwa [u8s_length, show zF.length = 24 from rfl] at this) (by rw [u8s_length]; exact HFl.out) (u8s_one F))
    have hci : (26 : Int) ≤ (k2 : Int) := by omega
    have hk2 : ¬ k2 = 2 := by omega
    have harr : (Instr.arrayAt 95 (.slice (some ⟨gb, go + 2, none⟩) 24 (k2 - 2))).run Try.prog w2 = .ok (.pointer (some ⟨gb, go + 2, none⟩)) w2 := by
      simp [Instr.arrayAt, run_underlying Try.underlying95]
    clear hcell c0 c1 c2
    go_wp2_with (first | ((with_reducible refine ld_arm HLD.out ?_ ?_); (· rfl)) | ((with_reducible refine st_arm HST.out ?_ ?_ ?_); (· rfl); (· rfl)))
    have hx3 := HX2.out.set (M := u8s F) (by rw [u8s_length, u8s_length, HFl.out]; rfl)
    have hlv := lvFm hx3.range (by rw [u8s_length]; exact HFl.out)
    exact bodyPost_ret (v := .tuple #[fmV F, .bool true]) (by simp [results, Try.results44, asAddr, Act.put, hlv]) rfl ⟨rfl, But.below (below_call HB.out HB2.out) (setCells_but (S := (· = w.heap.size + 1)) rfl (u8s F) 0 (But.refl _ _)) (fun k hk => by omega)⟩
  | false =>
    have HA := hid (answer_bad 1 _ _ W hR (by rw [rfm_cap]; exact hf))
    have eF : fmR ⟨o, h, l⟩ = zF := by unfold fmR; rw [if_neg (by rw [hf]; simp)]
    rw [eF]
    clear hR hf eF
    go_enter Try.func44, Try.ntmps44
    go_upto_region 1 with fail
    rw [← HW.out]
    go_upto_region 2 with (first | (go_at_call 52; refine HA.out.mono ?_; rintro x w2 ⟨rfl, hb2⟩; have HB2 := hid hb2; clear hb2))
    have HX2 := hid (HX1.out.later HB2.out)
    have HST := hid (stFm (L := u8s zF) (by have := HX2.out.there; rwa [u8s_length, show zF.length = 24 from rfl] at this) rfl (u8s_one zF))
    clear c0 c1 c2
    go_wp2_with (first | ((with_reducible refine st_arm HST.out ?_ ?_ ?_); (· rfl); (· rfl)))
    have hx3 := HX2.out.set (M := u8s zF) rfl
    have hlv := lvFm hx3.range rfl
    exact bodyPost_ret (v := .tuple #[fmV zF, .bool false]) (by simp [results, Try.results44, asAddr, Act.put, hlv]) rfl ⟨rfl, But.below (below_call HB.out HB2.out) (setCells_but (S := (· = w.heap.size + 1)) rfl (u8s zF) 0 (But.refl _ _)) (fun k hk => by omega)⟩
end Go.Proofs.Yticgammbjcdobaa
