/- Values in plain words: numbers as digits of base 128, put and read; a value's bytes, there and back. -/
import Derived.Test.YtkmlfkbpcgkpaaaGreatDoorRows
namespace Go.Proofs.YtkmlfkbpcgkpaaaGreatDoor
def digsN (n : Nat) : List UInt8:=if n < 128 then [UInt8.ofNat n] else UInt8.ofNat (128+n % 128) :: digsN (n / 128)
termination_by n
decreasing_by omega
def zigN (n : Int) : Nat:=if n < 0 then (-2*n - 1).toNat else (2*n).toNat
structure PVal where
 k : Int
 n : Int
 s : List UInt8
instance : DecidableEq PVal:=fun a b =>
 if h : a.k=b.k∧a.n=b.n∧a.s=b.s then isTrue (by cases a;cases b;simp_all) else isFalse (fun e=>h (by rw [e];exact ⟨rfl,rfl,rfl⟩))
def rightB (v : PVal) : Bool :=
 if v.k=1 then decide (-1099511627776≤v.n∧v.n≤1099511627776∧v.s=[])
 else if v.k=2 then decide (v.n=0∧v.s.length≤64)
 else if v.k=3 then decide (0≤v.n∧v.n≤1∧v.s=[])
 else false
def putV (v : PVal) : List UInt8 :=
 if rightB v then
  (if v.k=1 then 1 :: digsN (zigN v.n) else if v.k=2 then 2 :: UInt8.ofNat v.s.length :: v.s else [3,UInt8.ofNat v.n.toNat])
 else []
structure Reads (g : List UInt8→Option (PVal × Nat)) : Prop where
 there : ∀ v t,rightB v=true→g (putV v++t)=some (v,(putV v).length)
 back : ∀ l v k,g l=some (v,k)→rightB v=true∧k≤l.length∧putV v=l.take k
end Go.Proofs.YtkmlfkbpcgkpaaaGreatDoor
