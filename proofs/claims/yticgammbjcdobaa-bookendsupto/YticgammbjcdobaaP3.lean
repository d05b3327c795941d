import Derived.Test.YticgammbjcdobaaA3
namespace Go.Proofs.Yticgammbjcdobaa
set_option linter.unusedSimpArgs false
structure Rp where
  code : Int
  obj : Int
  hi : Nat
  lo : Nat
  data : List Nat
  number : Int
def tnB (r : Rp) : Bool := decide (r.obj = 0 ∧ r.hi = 0 ∧ r.lo = 0) && decide (r.data.length = 0) && decide (r.number = 0)
def unt (op : Int) (r : Rp) : Rp := if op = 1 ∨ op = 3 then { r with obj := 0, hi := 0, lo := 0 } else if op = 5 then { r with data := [] } else if op = 9 then { r with number := 0 } else r
def rfm (op : Int) (r : Rp) : Bool := wi op 0 10 && wi r.code 0 65535 && (if r.code = 0 then decide (op ≠ 0) && wi r.obj 0 4611686018427387904 && wi r.number 0 65535 && decide (r.data.length ≤ 1024) && tnB (unt op r) else tnB r)
def told (op : Int) (r : Rp) : List Nat := if op = 1 ∨ op = 3 then leL r.obj.toNat 8 ++ leL r.lo 8 ++ leL r.hi 8 else if op = 5 then r.data else if op = 9 then leL r.number.toNat 2 else []
def rly (op : Int) (r : Rp) : List Nat := leL r.code.toNat 2 ++ (if r.code = 0 then told op r else [])
theorem rly_nz {op : Int} {r : Rp} (h : r.code ≠ 0) : rly op r = leL r.code.toNat 2 := by unfold rly; rw [if_neg h, List.append_nil]
theorem rly_z {op : Int} {r : Rp} (h : r.code = 0) : rly op r = leL 0 2 ++ told op r := by unfold rly; rw [if_pos h, h]; rfl
theorem told_c {op : Int} (r : Rp) (h : op = 1 ∨ op = 3) : told op r = leL r.obj.toNat 8 ++ leL r.lo 8 ++ leL r.hi 8 := by unfold told; rw [if_pos h]
theorem told_d {op : Int} (r : Rp) (h : op = 5) : told op r = r.data := by unfold told; rw [if_neg (by omega), if_pos h]
theorem told_n {op : Int} (r : Rp) (h : op = 9) : told op r = leL r.number.toNat 2 := by unfold told; rw [if_neg (by omega), if_neg (by omega), if_pos h]
theorem told_0 {op : Int} (r : Rp) (h : ¬ (op = 1 ∨ op = 3)) (h5 : ¬ op = 5) (h9 : ¬ op = 9) : told op r = [] := by unfold told; rw [if_neg h, if_neg h5, if_neg h9]
end Go.Proofs.Yticgammbjcdobaa
