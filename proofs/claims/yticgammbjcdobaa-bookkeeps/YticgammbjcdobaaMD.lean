import Derived.Test.YticgammbjcdobaaMC
import Derived.Deep.MidRow
namespace Go.Proofs.Yticgammbjcdobaa
open Go.RowKit
set_option linter.unusedVariables false
set_option linter.unusedSimpArgs false
structure Cp where
  o : Int
  h : Nat
  l : Nat
def Cp.far (c : Cp) : Prop := I64 c.o ∧ U64 c.h ∧ U64 c.l
abbrev capV (c : Cp) : Value := .agg #[.int .i64 c.o, .int .u64 (c.h : Int), .int .u64 (c.l : Int)]
def hasF (c : Cp) : Bool := decide (0 ≤ c.o ∧ c.o ≤ 4611686018427387904)
def frm (c : Cp) : List Nat := leL c.o.toNat 8 ++ leL c.l 8 ++ leL c.h 8
theorem frm_len (c : Cp) : (frm c).length = 24 := by simp [frm, leL_length]
theorem frm_sml (c : Cp) : ∀ x ∈ frm c, x < 256 := by
  intro x hx
  simp only [frm, List.mem_append] at hx
  rcases hx with (hx | hx) | hx <;> exact leL_small _ _ x hx
theorem kfrm (c : Cp) : Kv 95 (fmV (frm c)) := kform (frm_len c) (frm_sml c)
def zF : List Nat := List.replicate 24 0
def fmR (c : Cp) : List Nat := if hasF c = true then frm c else zF
theorem infoFm : (Try.prog.info? 95).map (·.size) = some 24 := by kernel_rfl
theorem ldFm {w : World} {b o : Nat} {L : List Value} (h : w.rangeAt b o L) (hl : L.length = 24) : (Instr.loadAt 95 (.pointer (some ⟨b, o, none⟩))).run Try.prog w = .ok (.agg L.toArray) w :=
  run_loadAt_mid w b o 95 L _ h Try.underlying95 rfl (by rw [infoFm, hl])
theorem stFm {w : World} {b o : Nat} {L : List Value} (h : w.there b o 24) (hl : L.length = 24) (h1 : ∀ v ∈ L, v.oneCell' = true) : (Instr.storeAt 95 (.pointer (some ⟨b, o, none⟩)) (.agg L.toArray)).run Try.prog w = .ok () (w.setCells b o L) :=
  run_storeAt_mid w b o 95 L.toArray (by simpa [hl] using h) (by rw [infoFm]; simp [hl]) (all_oneCell_toArray h1)
theorem lvFm {w : World} {b o : Nat} {L : List Value} (h : w.rangeAt b o L) (hl : L.length = 24) : (loadVar 95 ⟨b, o, none⟩).run Try.prog w = .ok (.agg L.toArray) w :=
  run_loadVar_mid w b o 95 L _ h Try.underlying95 rfl (by rw [infoFm, hl])
theorem rfm_cap (o : Int) (h l : Nat) : rfm 1 ⟨0, o, h, l, [], 0⟩ = hasF ⟨o, h, l⟩ := by
  rw [rfm_z rfl]
  have e1 : wi 1 0 10 = true := by decide
  have e2 : wi 0 0 65535 = true := by decide
  have e3 : tnB (unt 1 ⟨0, o, h, l, [], 0⟩) = true := by simp [unt, tnB]
  rw [e1, e3]
  simp only [e2, hasF, wi]
  by_cases h1 : 0 ≤ o <;> by_cases h2 : o ≤ 4611686018427387904 <;> simp [h1, h2]
theorem rly_cap (o : Int) (h l : Nat) : rly 1 ⟨0, o, h, l, [], 0⟩ = [0, 0] ++ frm ⟨o, h, l⟩ := by
  rw [rly_z rfl, told_c _ (.inl rfl)]
  rfl
set_option maxRecDepth 100000 in
set_option maxHeartbeats 4000000 in
theorem formOf_any (c : Cp) (hc : c.far) (w : World) :
    Calls Try.prog 44 #[capV c] w fun e w' => e = .returned (.tuple #[fmV (fmR c), .bool (hasF c)]) ∧ Below w.heap.size w w' := by
  obtain ⟨o, h, l⟩ := c
  obtain ⟨W, hW⟩ : ∃ W, W = (w.alloc (Obj.cells #[.int .i64 o, .int .u64 (h : Int), .int .u64 (l : Int)] 31)).alloc (Obj.cells (u8s zF).toArray 95) := ⟨_, rfl⟩
  have hB : Below w.heap.size w W := by rw [hW]; exact below2 _ _ _
  have HX1 : Hid (Bx W (w.heap.size + 1) (u8s zF)) := by rw [hW]; have := Bx.new (w.alloc (Obj.cells #[.int .i64 o, .int .u64 (h : Int), .int .u64 (l : Int)] 31)) (u8s zF) 95; simp at this; exact this
  have c0 : W.cell? ⟨w.heap.size, 0, none⟩ = some (.int .i64 o) := by rw [hW]; simp [go_sem]
  have c1 : W.cell? ⟨w.heap.size, 1, none⟩ = some (.int .u64 (h : Int)) := by rw [hW]; simp [go_sem]
  have c2 : W.cell? ⟨w.heap.size, 2, none⟩ = some (.int .u64 (l : Int)) := by rw [hW]; simp [go_sem]
  have HB := hid hB
  have hW2 : W = (w.alloc (Obj.cells #[.int .i64 o, .int .u64 (h : Int), .int .u64 (l : Int)] 31)).alloc (Obj.cells #[.int .u8 0, .int .u8 0, .int .u8 0, .int .u8 0, .int .u8 0, .int .u8 0, .int .u8 0, .int .u8 0, .int .u8 0, .int .u8 0, .int .u8 0, .int .u8 0, .int .u8 0, .int .u8 0, .int .u8 0, .int .u8 0, .int .u8 0, .int .u8 0, .int .u8 0, .int .u8 0, .int .u8 0, .int .u8 0, .int .u8 0, .int .u8 0] 95) := hW
  have HW := hid hW2
  have hR : Rr W (rC ⟨0, o, h, l, [], 0⟩ ⟨none, 0, 0⟩) ⟨0, o, h, l, [], 0⟩ := ⟨⟨none, 0, 0⟩, rfl, row_nil W, hc.2.1, hc.2.2⟩
  clear hB hW hW2
  cases hf : hasF ⟨o, h, l⟩ with
  | true =>
    have hA := answer_ok 1 _ _ W hR (by rw [rfm_cap]; exact hf)
    rw [rly_cap] at hA
    have HA := hid hA
    have eF : fmR ⟨o, h, l⟩ = frm ⟨o, h, l⟩ := by unfold fmR; rw [if_pos hf]
    rw [eF]
    have HFl := hid (frm_len ⟨o, h, l⟩)
    generalize frm ⟨o, h, l⟩ = F at HA HFl ⊢
    clear hA hR hf eF
    go_enter Try.func44, Try.ntmps44
    go_upto_region 1 with fail
    rw [← HW.out]
    go_upto_region 2 with (first | (go_at_call 52; refine HA.out.mono ?_; rintro x w2 ⟨a2, n2, k2, rfl, ho2, hb2⟩; have HO2 := hid ho2; have HB2 := hid hb2; clear ho2 hb2))
    have hn2 : n2 = 26 := by rw [← HO2.out.len, List.length_append, HFl.out]; rfl
    subst hn2
    obtain ⟨gb, go, rfl, hcell⟩ := HO2.out.read.plain (by omega)
    have hcap := HO2.out.read.cap_
    have HRg : Hid (w2.rangeAt gb (go + 2) (u8s F)) := fun j v hv => by
      have hj := (List.getElem?_eq_some_iff.1 hv).1
      rw [u8s_length] at hj
      have := hcell (j + 2) (by rw [List.length_append]; simp; omega)
      rw [show go + 2 + j = go + (j + 2) by omega, this]
      rw [← hv]
      simp [u8s, hj]
    have HLD := hid (ldFm HRg.out (by rw [u8s_length]; exact HFl.out))
    have HX2 := hid (HX1.out.later HB2.out)
    have HST := hid (stFm (L := u8s F) (by have := HX2.out.there; rwa [u8s_length, show zF.length = 24 from rfl] at this) (by rw [u8s_length]; exact HFl.out) (u8s_one F))
    have hci : (26 : Int) ≤ (k2 : Int) := by omega
    have hk2 : ¬ k2 = 2 := by omega
    have harr : (Instr.arrayAt 95 (.slice (some ⟨gb, go + 2, none⟩) 24 (k2 - 2))).run Try.prog w2 = .ok (.pointer (some ⟨gb, go + 2, none⟩)) w2 := by
      simp [Instr.arrayAt, run_underlying Try.underlying95]
    clear hcell c0 c1 c2
    go_wp2_with (first | ((with_reducible refine ld_arm HLD.out ?_ ?_); (· rfl)) | ((with_reducible refine st_arm HST.out ?_ ?_ ?_); (· rfl); (· rfl)))
    have hx3 := HX2.out.set (M := u8s F) (by rw [u8s_length, u8s_length, HFl.out]; rfl)
    have hlv := lvFm hx3.range (by rw [u8s_length]; exact HFl.out)
    exact bodyPost_ret (v := .tuple #[fmV F, .bool true]) (by simp [results, Try.results44, asAddr, Act.put, hlv]) rfl ⟨rfl, But.below (below_call HB.out HB2.out) (setCells_but (S := (· = w.heap.size + 1)) rfl (u8s F) 0 (But.refl _ _)) (fun k hk => by omega)⟩
  | false =>
    have HA := hid (answer_bad 1 _ _ W hR (by rw [rfm_cap]; exact hf))
    have eF : fmR ⟨o, h, l⟩ = zF := by unfold fmR; rw [if_neg (by rw [hf]; simp)]
    rw [eF]
    clear hR hf eF
    go_enter Try.func44, Try.ntmps44
    go_upto_region 1 with fail
    rw [← HW.out]
    go_upto_region 2 with (first | (go_at_call 52; refine HA.out.mono ?_; rintro x w2 ⟨rfl, hb2⟩; have HB2 := hid hb2; clear hb2))
    have HX2 := hid (HX1.out.later HB2.out)
    have HST := hid (stFm (L := u8s zF) (by have := HX2.out.there; rwa [u8s_length, show zF.length = 24 from rfl] at this) rfl (u8s_one zF))
    clear c0 c1 c2
    go_wp2_with (first | ((with_reducible refine st_arm HST.out ?_ ?_ ?_); (· rfl); (· rfl)))
    have hx3 := HX2.out.set (M := u8s zF) rfl
    have hlv := lvFm hx3.range rfl
    exact bodyPost_ret (v := .tuple #[fmV zF, .bool false]) (by simp [results, Try.results44, asAddr, Act.put, hlv]) rfl ⟨rfl, But.below (below_call HB.out HB2.out) (setCells_but (S := (· = w.heap.size + 1)) rfl (u8s zF) 0 (But.refl _ _)) (fun k hk => by omega)⟩
end Go.Proofs.Yticgammbjcdobaa
