import PyProof.Rows.All
import Wide.All
import OpenK.AllK
import Wide.FinOn
import Lean
import PyProof.EqAt
import PyProof.EqKinds
import PyProof.TupleCall
import PyProof.NeKinds
import PyProof.StrOps2
import PyProof.InstStoreFacts
import PyProof.ExcInit
import PyProof.ListRange
import PyProof.ListMulRoad
import PyProof.DictWalks
import PyProof.Rows.SortWalk
import KE.KDictOf
import PyProof.AttrMissSeq
import PyProof.DictItemsLoops
import PyProof.ZipIter
import PyProof.Rows.SetFrom
import PyProof.Rows.ZipGen
import PyProof.EnumIter
import PyProof.TupleIter
import KE.KDictSum
import PyProof.DictIter
import PyProof.TupleOfSeq
import KE.KRevSl
import KE.KSortTup
import PyProof.MinMaxWalk
import KE.KMinKey
import PyProof.Rows.CallKwBuiltin
import PySem.Challenge.RW_latinclose_k34_no_part
set_option Elab.async false
set_option linter.all false
set_option maxRecDepth 100000
namespace Om
theorem a1 {a b c : Nat} (h : c = b) (g : a < b) : a < c := h ▸ g
theorem a2 {a b c : Nat} (g : a < b) (h : b = c) : a < c := h ▸ g
theorem a3 {a b c : Nat} (g : a < b) (h : b <= c) : a < c := Nat.lt_of_lt_of_le g h
theorem b1 {a m k : Nat} (h : a <= m) (g : Nat.ble m k = true) : a <= k := Nat.le_trans h (Nat.le_of_ble_eq_true g)
theorem b2 {a n m k : Nat} (f : a < n) (h : n <= m) (g : Nat.ble m k = true) : a <= k := Nat.le_trans (Nat.le_of_lt f) (b1 h g)
theorem b3 {a n m k : Nat} (f : a <= n) (h : n <= m) (g : Nat.ble m k = true) : a <= k := Nat.le_trans f (b1 h g)
theorem b4 {a n m k : Nat} (f : a = n) (h : n <= m) (g : Nat.ble m k = true) : a <= k := f ▸ b1 h g
theorem b5 {a n j m k : Nat} (f : a = n) (e : n < j) (h : j <= m) (g : Nat.ble m k = true) : a <= k := f ▸ b2 e h g
theorem b6 {a n j m k : Nat} (f : a < n) (e : n = j) (h : j <= m) (g : Nat.ble m k = true) : a <= k := b2 f (e ▸ h) g
theorem c1 {n m : Nat} (h : n <= m) (g : Nat.ble m 100000 = true) : (n : Int) < 2 ^ 62 := Int.lt_of_le_of_lt (Int.ofNat_le.mpr (b1 h g)) (by decide)
theorem c2 {n : Nat} : -2 ^ 62 <= (n : Int) := Int.le_trans (by decide : (-2 ^ 62 : Int) <= 0) (Int.natCast_nonneg n)
theorem c3 {n : Nat} (h : 1 <= n) : (0 : Int) < n := Int.natCast_pos.mpr h
theorem c5 {a b : Nat} (h : a < b) : (a : Int) < (b : Int) := Int.ofNat_lt.mpr h
theorem c6 {a : Nat} : (0 : Int) <= (a : Int) := Int.natCast_nonneg a
theorem d1 {a b : Nat} (h : a < b) : a <= b := Nat.le_of_lt h
theorem e1 {a b : Nat} (h : (a : Int) = (b : Int)) : a = b := Int.ofNat.inj h
theorem f1 {a b : Nat} (h : a < b) : a + 1 <= b := h
theorem f2 {a b : Nat} (h : a < b) : a < b + 1 := Nat.lt_succ_of_lt h
theorem f3 {a b : Nat} (h : a <= b) : a < b + 1 := Nat.lt_succ_of_le h
theorem f4 {a b : Nat} (h : a + 1 <= b) : a <= b := Nat.le_of_succ_le h
theorem f5 {a b : Nat} (h : a + 1 <= b) : a < b := h
theorem p1 {a : Nat} (h : 2 <= a) : 0 < a := Nat.lt_of_lt_of_le (Nat.zero_lt_succ 1) h
theorem g1 {a b c : Nat} (h : a = b) (g : b = c) : a = c := h.trans g
theorem l3 {a b c : Nat} (h : a <= b) (g : c = b) : a <= c := g ▸ h
theorem z1 {a : Int} (h : 0 <= a) : a = (a.toNat : Int) := (Int.toNat_of_nonneg h).symm
theorem m1 {a b : Nat} (h : a < b) : min a b = a := Nat.min_eq_left (Nat.le_of_lt h)
theorem m2 {a b : Nat} (h : a <= b) : min a b = a := Nat.min_eq_left h
theorem x1 {a b c : Nat} (h : a = b) (g : b < c) : a < c := h ▸ g
theorem y2 {a b m : Nat} (h : b = a) (e : b <= m) (g : Nat.ble m k = true) : a <= k := h ▸ b1 e g
theorem k0 {x0 x1 x2 : Nat} (h0 : x2 = x0) (h1 : ((x1 : Nat) : Int) = ((x0 : Nat) : Int)) : x0 = x1 := by lia
theorem k1 {y0 : Int} : (((1 : Int) + ((y0 / (5 : Int)) % (3 : Int)))).toNat ≤ (3 : Nat) := by lia
theorem k2 {y0 : Int} : (1 : Nat) ≤ (((1 : Int) + ((y0 / (5 : Int)) % (3 : Int)))).toNat := by lia
theorem k3 {y0 : Int} : ((1 : Int) + ((y0 / (5 : Int)) % (3 : Int))) = (((((1 : Int) + ((y0 / (5 : Int)) % (3 : Int)))).toNat : Nat) : Int) := by lia
theorem k4 {x0 : Nat} (h0 : x0 ≤ (63 : Nat)) : ((3 : Nat) + x0) ≤ (1000 : Nat) := by lia
theorem k5 {x0 : Nat} (h0 : x0 ≤ (2000 : Nat)) (h1 : (0 : Nat) < x0) : (0 : Int) < ((x0 : Nat) : Int) := by lia
theorem k6 {x0 : Nat} (h0 : x0 ≤ (2000 : Nat)) (h1 : (0 : Nat) < x0) : ((x0 : Nat) : Int) ≠ (0 : Int) := by lia
theorem k7 {y0 : Int} (h0 : (y0 ≤ (32 : Int)) ∧ ((0 : Int) < y0)) : ((0 : Int) < y0) ∧ (y0 < (1073741824 : Int)) := by lia
theorem k8 {x0 x1 : Nat} (h0 : x1 ≤ (6 : Nat)) (h1 : x0 < x1) : ((x0 : Nat) : Int) ≤ (1000000 : Int) := by lia
theorem k9 {x0 x1 : Nat} (h0 : x0 ≤ (7 : Nat)) (h1 : x1 ≤ (7 : Nat)) : (x0 + x1) ≤ (1000 : Nat) := by lia
theorem k10 {x0 x1 x2 : Nat} : (min (x0 - x1) (x2 - x1)) ≤ x2 := by lia
theorem k11 {x0 x1 x2 x3 x4 x5 x6 x7 x8 x9 x10 x11 : Nat} {y0 : Int} (h0 : x1 = x0) (h1 : x2 = x0) (h2 : x3 = x0) (h3 : x4 = x0) (h4 : x5 = x0) (h5 : x6 < x7) (h6 : x8 = x0) (h7 : x9 = x0) (h8 : x10 < x0) (h9 : x10 < x11) (h10 : ((0 : Int) ≤ y0) ∧ (y0 < ((x0 : Nat) : Int))) : (y0).toNat < x0 := by lia
theorem k12 {x0 x1 x2 x3 x4 : Nat} {y0 : Int} (h0 : x0 < x1) (h1 : x2 < x3) (h2 : ((0 : Int) ≤ y0) ∧ (y0 < ((x4 : Nat) : Int))) : y0 = (((y0).toNat : Nat) : Int) := by lia
theorem k13 {x0 x1 : Nat} (h0 : x0 = x1) (h1 : (2 : Nat) ≤ x0) : (2 : Int) ≤ ((x0 : Nat) : Int) := by lia
theorem k14 {x0 x1 : Nat} (h0 : x0 = x1) : ((x0 : Nat) : Int) = ((x1 : Nat) : Int) := by lia
theorem k15 {x0 x1 x2 x3 : Nat} (h0 : x2 = x1) (h1 : x0 = x3) (h2 : ¬(x0 < x1)) : ¬(((x0 : Nat) : Int) < ((x1 : Nat) : Int)) := by lia
theorem k16 {x0 x1 x2 : Nat} (h0 : x1 = x0) (h1 : x0 = x2) (h2 : ¬((2 : Nat) ≤ x0)) : ¬((2 : Int) ≤ ((x0 : Nat) : Int)) := by lia
theorem k17 {x0 x1 : Nat} (h0 : ¬(x0 = x1)) : ¬(((x0 : Nat) : Int) = ((x1 : Nat) : Int)) := by lia
theorem k18 {x0 x1 : Nat} (h0 : (2 : Nat) ≤ x0) (h1 : x1 = x0) : (2 : Int) ≤ ((x0 : Nat) : Int) := by lia
theorem k19 {x0 x1 x2 x3 : Nat} (h0 : ((x0 : Nat) : Int) < ((x1 : Nat) : Int)) (h1 : ((x0 : Nat) : Int) = ((x2 : Nat) : Int)) (h2 : ((x3 : Nat) : Int) = ((x0 : Nat) : Int)) : x0 < x1 := by lia
theorem k20 {x0 x1 x2 : Nat} (h0 : (2 : Int) ≤ ((x0 : Nat) : Int)) (h1 : x0 ≤ (6 : Nat)) (h2 : ((x0 : Nat) : Int) = ((x1 : Nat) : Int)) (h3 : ((x2 : Nat) : Int) = ((x0 : Nat) : Int)) : (2 : Nat) ≤ x0 := by lia
theorem k21 {x0 x1 x2 : Nat} (h0 : (2 : Nat) ≤ x0) (h1 : x0 < x1) (h2 : x2 = x0) : x0 < ((2 : Nat) + (x1 - (2 : Nat))) := by lia
theorem k22 {x0 x1 : Nat} (h0 : ((2 : Nat) ≤ x0) ∧ (x0 < ((2 : Nat) + (x1 - (2 : Nat))))) : x0 < x1 := by lia
theorem k23 {x0 x1 : Nat} (h0 : ((2 : Nat) ≤ x0) ∧ (x0 < ((2 : Nat) + (x1 - (2 : Nat))))) : (2 : Nat) ≤ x0 := by lia
theorem k24 {x0 x1 : Nat} (h0 : x0 ≤ (6 : Nat)) (h1 : ((((((x1 + (1 : Nat)) + (1 : Nat)) + (1 : Nat)) + (1 : Nat)) + (1 : Nat)) + (1 : Nat)) < x0) : False := by lia
theorem k25 {x0 x1 x2 : Nat} (h0 : (2 : Nat) ≤ x0) (h1 : x0 ≤ (6 : Nat)) (h2 : x1 = x0) (h3 : x2 = x0) : ((x0 : Nat) : Int) ≠ (0 : Int) := by lia
theorem k26 {x0 x1 x2 : Nat} (h0 : (2 : Nat) ≤ x0) (h1 : x0 ≤ (6 : Nat)) (h2 : x1 = x0) (h3 : x2 = x0) : (0 : Int) < ((x0 : Nat) : Int) := by lia
theorem k27 {x0 x1 x2 x3 x4 : Nat} (h0 : x3 = x2) (h1 : x4 = x2) (h2 : x0 < x2) (h3 : (x1 + (1 : Nat)) < x2) (h4 : ((((x0 : Nat) : Int) + (1 : Int)) + ((x1 : Nat) : Int)) = ((((((x0 + (1 : Nat)) + x1) - x2) : Nat) : Int) + ((x2 : Nat) : Int))) : (((((x0 + (1 : Nat)) + x1) - x2) : Nat) : Int) < ((x2 : Nat) : Int) := by lia
theorem k28 {x0 x1 x2 x3 x4 : Nat} (h0 : x3 = x2) (h1 : x4 = x2) (h2 : ¬(((x0 + (1 : Nat)) + x1) < x2)) : ((((x0 : Nat) : Int) + (1 : Int)) + ((x1 : Nat) : Int)) = ((((((x0 + (1 : Nat)) + x1) - x2) : Nat) : Int) + ((x2 : Nat) : Int)) := by lia
theorem k29 {x0 x1 x2 x3 x4 : Nat} (h0 : x3 = x2) (h1 : x4 = x2) (h2 : (x1 + (1 : Nat)) < x2) (h3 : ¬(((x0 + (1 : Nat)) + x1) < x2)) : x0 ≠ (((x0 + (1 : Nat)) + x1) - x2) := by lia
theorem k30 {x0 x1 x2 x3 x4 : Nat} (h0 : x3 = x2) (h1 : x4 = x2) (h2 : x0 < x2) (h3 : (x1 + (1 : Nat)) < x2) (h4 : ¬(((x0 + (1 : Nat)) + x1) < x2)) : (((x0 + (1 : Nat)) + x1) - x2) < x2 := by lia
theorem k31 {x0 x1 : Nat} : x0 ≠ ((x0 + (1 : Nat)) + x1) := by lia
theorem k32 {x0 x1 : Nat} : ((((x0 : Nat) : Int) + (1 : Int)) + ((x1 : Nat) : Int)) = ((((x0 + (1 : Nat)) + x1) : Nat) : Int) := by lia
theorem k33 {x0 x1 x2 x3 x4 : Nat} (h0 : x3 = x2) (h1 : x4 = x2) (h2 : ((x0 + (1 : Nat)) + x1) < x2) : ((((x0 : Nat) : Int) + (1 : Int)) + ((x1 : Nat) : Int)) < ((x2 : Nat) : Int) := by lia
theorem k34 {x0 x1 : Nat} : (0 : Int) ≤ ((((x0 : Nat) : Int) + (1 : Int)) + ((x1 : Nat) : Int)) := by lia
theorem k35 {x0 x1 x2 : Nat} (h0 : (2 : Nat) ≤ x0) (h1 : x0 ≤ (6 : Nat)) (h2 : x1 = x0) (h3 : x2 = x0) : (((x0 : Nat) : Int) - (1 : Int)) ≠ (0 : Int) := by lia
theorem k36 {x0 x1 x2 : Nat} (h0 : (2 : Nat) ≤ x0) (h1 : x0 ≤ (6 : Nat)) (h2 : x1 = x0) (h3 : x2 = x0) : (0 : Int) < (((x0 : Nat) : Int) - (1 : Int)) := by lia
theorem k37 {y0 : Int} : (((1 : Int) + (y0 % (6 : Int)))).toNat ≤ (6 : Nat) := by lia
theorem k38 {y0 : Int} : (1 : Nat) ≤ (((1 : Int) + (y0 % (6 : Int)))).toNat := by lia
theorem k39 {y0 : Int} : ((1 : Int) + (y0 % (6 : Int))) = (((((1 : Int) + (y0 % (6 : Int)))).toNat : Nat) : Int) := by lia
theorem k40 {x0 x1 x2 x3 : Nat} (h0 : x1 = x0) (h1 : x0 ≤ (8 : Nat)) (h2 : x2 = x0) (h3 : x3 = x0) : x0 < (64 : Nat) := by lia
theorem k41 {x0 x1 x2 x3 x4 x5 : Nat} (h0 : x2 = x1) (h1 : x3 = x1) (h2 : x1 ≤ (6 : Nat)) (h3 : x0 < x1) (h4 : x4 = x1) (h5 : x5 = x1) : (((min x0 x1) + (1 : Nat)) + (x1 - (x0 + (1 : Nat)))) ≤ (1000 : Nat) := by lia
theorem k42 {x0 x1 x2 x3 x4 x5 x6 : Nat} (h0 : x2 = x1) (h1 : x3 = x1) (h2 : x1 ≤ (6 : Nat)) (h3 : x0 < x1) (h4 : x4 < x1) (h5 : x5 = x1) (h6 : x6 = x1) : ((min x0 x1) + (1 : Nat)) ≤ (1000 : Nat) := by lia
theorem k43 {x0 x1 x2 x3 x4 x5 x6 : Nat} (h0 : x2 = x1) (h1 : x3 = x1) (h2 : x1 ≤ (6 : Nat)) (h3 : x4 < x1) (h4 : x0 < x1) (h5 : x5 = x1) (h6 : x6 = x1) : ((min x0 x1) + (1 : Nat)) ≤ (1000 : Nat) := by lia
theorem k44 {x0 x1 : Nat} (h0 : x0 < x1) : ((x0 : Nat) : Int) ≤ ((x1 : Nat) : Int) := by lia
theorem k45 {x0 x1 x2 x3 : Nat} (h0 : x2 < x3) (h1 : x1 ≤ (6 : Nat)) (h2 : x0 ≤ (36 : Nat)) : (x0 + x1) ≤ (1000 : Nat) := by lia
theorem k46 {x0 x1 : Nat} (h0 : x0 < x1) (h1 : x1 ≤ (6 : Nat)) : (min x0 x1) ≤ (6 : Nat) := by lia
theorem k47 {x0 x1 : Nat} (h0 : ¬(x1 < x0)) : x0 ≤ x1 := by lia
theorem k48 {x0 x1 x2 x3 : Nat} (h0 : x1 = x2) (h1 : x2 ≤ (6 : Nat)) (h2 : x3 = x2) (h3 : x0 ≤ ((400 : Nat) * (x2 - (2 : Nat)))) : x0 ≤ (2000 : Nat) := by lia
theorem k49 {x0 x1 x2 x3 : Nat} (h0 : x2 ≤ (20 : Nat)) (h1 : x3 = x2) (h2 : x0 ≤ (((400 : Nat) * x1) + ((20 : Nat) * x2))) : x0 ≤ ((400 : Nat) * (x1 + (1 : Nat))) := by lia
theorem k50 {x0 x1 x2 x3 x4 : Nat} (h0 : x3 ≤ (20 : Nat)) (h1 : x4 = x3) (h2 : x0 ≤ ((((400 : Nat) * x1) + ((20 : Nat) * x2)) + x3)) : x0 ≤ (((400 : Nat) * x1) + ((20 : Nat) * (x2 + (1 : Nat)))) := by lia
theorem k51 {x0 x1 x2 x3 : Nat} (h0 : x0 ≤ ((((400 : Nat) * x1) + ((20 : Nat) * x2)) + x3)) : x0 ≤ ((((400 : Nat) * x1) + ((20 : Nat) * x2)) + (x3 + (1 : Nat))) := by lia
theorem k52 {x0 x1 x2 x3 x4 x5 x6 : Nat} (h0 : x1 = x2) (h1 : x2 ≤ (6 : Nat)) (h2 : x3 = x2) (h3 : x4 < (x2 - (2 : Nat))) (h4 : x5 < (20 : Nat)) (h5 : x0 ≤ ((((400 : Nat) * x4) + ((20 : Nat) * x5)) + x6)) (h6 : x6 < (20 : Nat)) : x0 < (100000 : Nat) := by lia
theorem k53 {x0 x1 x2 : Nat} (h0 : x0 ≤ (((400 : Nat) * x1) + ((20 : Nat) * x2))) : x0 ≤ ((((400 : Nat) * x1) + ((20 : Nat) * x2)) + (0 : Nat)) := by lia
theorem k54 {x0 x1 : Nat} (h0 : x0 ≤ ((400 : Nat) * x1)) : x0 ≤ (((400 : Nat) * x1) + ((20 : Nat) * (0 : Nat))) := by lia
theorem k55 {x0 x1 x2 x3 : Nat} (h0 : x1 = x2) (h1 : x2 ≤ (6 : Nat)) (h2 : x3 = x2) (h3 : x0 < x2) : x0 < (7 : Nat) := by lia
theorem k56 {x0 : Nat} : (2 : Nat) ≤ ((2 : Nat) + x0) := by lia
theorem k57 {x0 x1 x2 : Nat} (h0 : x2 = x1) (h1 : x0 < (x1 - (2 : Nat))) : ((2 : Nat) + x0) < x1 := by lia
theorem k58 {x0 : Nat} : ((2 : Int) + ((x0 : Nat) : Int)) = ((((2 : Nat) + x0) : Nat) : Int) := by lia
theorem k59 {x0 x1 x2 : Nat} (h0 : x1 = x0) (h1 : x0 ≤ (6 : Nat)) (h2 : x2 = x0) : ((((x0 : Nat) : Int) - (2 : Int))).toNat = (x0 - (2 : Nat)) := by lia
theorem k60 : (2 : Int) < ((2 : Int) ^ 62) := by lia
theorem k61 : (-((2 : Int) ^ 62)) ≤ (2 : Int) := by lia
theorem k62 {x0 : Nat} (h0 : x0 < (100000 : Nat)) : x0 < (16777216 : Nat) := by lia
theorem k63 {x0 x1 x2 : Nat} (h0 : x1 ≤ (64 : Nat)) (h1 : x2 < x1) (h2 : x0 ≤ x2) : x0 ≤ (1000 : Nat) := by lia
theorem k64 {x0 : Nat} (h0 : x0 ≤ (6 : Nat)) : ((x0 : Nat) : Int) ≤ (1000000 : Int) := by lia
theorem k65 {x0 : Nat} (h0 : (((x0 % (2 : Nat)) : Nat) : Int) = (1 : Int)) : (x0 % (2 : Nat)) = (1 : Nat) := by lia
theorem k66 {x0 x1 x2 : Nat} (h0 : x1 = x2) (h1 : x2 ≤ (6 : Nat)) (h2 : x0 ≤ x2) : x0 < (64 : Nat) := by lia
theorem k67 {y0 y1 : Int} (h0 : y1 = y0) : y0 ≤ y1 := by lia
theorem k68 {x0 x1 x2 x3 : Nat} (h0 : (2 : Nat) ≤ x2) (h1 : x2 ≤ (6 : Nat)) (h2 : (x2 % (2 : Nat)) = (0 : Nat)) (h3 : (x2 / (2 : Nat)) = x3) (h4 : x0 < x2) : (min x0 x1) ≤ (6 : Nat) := by lia
theorem k69 {x0 x1 : Nat} (h0 : (2 : Nat) ≤ x1) (h1 : x1 ≤ (6 : Nat)) (h2 : (x1 % (2 : Nat)) = (0 : Nat)) (h3 : (x1 / (2 : Nat)) = x0) : ((x0 : Nat) : Int) < ((2 : Int) ^ 64) := by lia
theorem k70 {x0 x1 : Nat} (h0 : (2 : Nat) ≤ x1) (h1 : x1 ≤ (6 : Nat)) (h2 : (x1 % (2 : Nat)) = (0 : Nat)) (h3 : (x1 / (2 : Nat)) = x0) : (-((2 : Int) ^ 64)) < ((x0 : Nat) : Int) := by lia
theorem k71 {y0 y1 : Int} : ((0 : Int) ≤ ((y0 + y1) % (2 : Int))) ∧ (((y0 + y1) % (2 : Int)) < (2 : Int)) := by lia
theorem k72 {x0 x1 : Nat} (h0 : (2 : Nat) ≤ x1) (h1 : x1 ≤ (6 : Nat)) (h2 : (x1 % (2 : Nat)) = (0 : Nat)) (h3 : (x1 / (2 : Nat)) = x0) : ((x0 : Nat) : Int) < (1073741824 : Int) := by lia
theorem k73 {x0 x1 : Nat} (h0 : (2 : Nat) ≤ x1) (h1 : x1 ≤ (6 : Nat)) (h2 : (x1 % (2 : Nat)) = (0 : Nat)) (h3 : (x1 / (2 : Nat)) = x0) : (1 : Nat) ≤ x0 := by lia
theorem k74 {x0 : Nat} : (((x0 : Nat) : Int) / (2 : Int)) = (((x0 / (2 : Nat)) : Nat) : Int) := by lia
theorem k75 {x0 : Nat} {y0 : Int} (h0 : ((y0 / (14 : Int)) % (5 : Int)) = ((x0 : Nat) : Int)) : (x0 = (0 : Nat)) ∨ ((x0 = (1 : Nat)) ∨ ((x0 = (2 : Nat)) ∨ ((x0 = (3 : Nat)) ∨ (x0 = (4 : Nat))))) := by lia
theorem k76 {y0 : Int} : (((y0 / (14 : Int)) % (5 : Int))).toNat < (5 : Nat) := by lia
theorem k77 {y0 : Int} : ((y0 / (14 : Int)) % (5 : Int)) = (((((y0 / (14 : Int)) % (5 : Int))).toNat : Nat) : Int) := by lia
theorem k78 {x0 x1 x2 x3 x4 x5 : Nat} (h0 : x2 = x3) (h1 : x3 ≤ (8 : Nat)) (h2 : x4 < x3) (h3 : x5 = x3) (h4 : x0 < x3) : (min x0 x1) ≤ (8 : Nat) := by lia
theorem k79 {x0 x1 x2 : Nat} (h0 : x1 = x2) (h1 : x2 ≤ (8 : Nat)) (h2 : x0 = x2) : ((x0 : Nat) : Int) < ((2 : Int) ^ 62) := by lia
theorem k80 {x0 x1 : Nat} : ((x0 + x1) - x1) = x0 := by lia
theorem k81 {x0 x1 : Nat} : ((x0 + x1) - x0) = x1 := by lia
theorem k82 {x0 x1 x2 x3 x4 : Nat} (h0 : x2 = x0) (h1 : x3 = x2) (h2 : x4 = x2) (h3 : x1 < x0) : (x0 - x1) < ((x0 + (1 : Nat)) - x1) := by lia
theorem k83 {x0 x1 x2 x3 x4 : Nat} (h0 : x2 = x0) (h1 : x3 = x2) (h2 : x4 = x2) (h3 : x1 ≤ x0) : ((x0 + (1 : Nat)) - x1) = ((x0 - x1) + (1 : Nat)) := by lia
theorem k84 {x0 x1 x2 x3 : Nat} (h0 : x1 = x2) (h1 : x2 ≤ (8 : Nat)) (h2 : x0 = x1) (h3 : x3 = x1) : ((x0 : Nat) : Int) < ((2 : Int) ^ 62) := by lia
theorem k85 {x0 x1 : Nat} (h0 : (1 : Nat) ≤ x0) (h1 : x0 ≤ (8 : Nat)) (h2 : x1 = x0) (h3 : (0 : Nat) = x0) : False := by lia
theorem k86 {x0 x1 : Nat} (h0 : (1 : Nat) ≤ x0) (h1 : x0 ≤ (8 : Nat)) (h2 : x1 = x0) : ((x0 : Nat) : Int) < ((2 : Int) ^ 64) := by lia
theorem k87 {x0 x1 : Nat} (h0 : (1 : Nat) ≤ x0) (h1 : x0 ≤ (8 : Nat)) (h2 : x1 = x0) : (-((2 : Int) ^ 64)) < ((x0 : Nat) : Int) := by lia
theorem k88 {x0 : Nat} (h0 : (1 : Nat) ≤ x0) (h1 : x0 ≤ (8 : Nat)) : ((x0 : Nat) : Int) < (1073741824 : Int) := by lia
theorem k89 {x0 : Nat} (h0 : (1 : Nat) ≤ x0) (h1 : x0 ≤ (8 : Nat)) : ((x0 : Nat) : Int) < ((2 : Int) ^ 64) := by lia
theorem k90 {x0 : Nat} (h0 : (1 : Nat) ≤ x0) (h1 : x0 ≤ (8 : Nat)) : (-((2 : Int) ^ 64)) < ((x0 : Nat) : Int) := by lia
theorem k91 {x0 x1 x2 x3 x4 : Nat} (h0 : x3 < x0) (h1 : x4 ≤ x1) (h2 : x4 = (x2 + x0)) : (min x0 (x1 - x2)) = x0 := by lia
theorem k92 {x0 x1 x2 : Nat} (h0 : x0 = (x1 + x2)) : (x0 - x1) = x2 := by lia
theorem k93 {x0 x1 x2 x3 x4 : Nat} (h0 : x2 < x3) (h1 : x4 ≤ x1) (h2 : x4 = (x0 + x3)) : x0 ≤ x1 := by lia
theorem k94 {x0 x1 x2 : Nat} (h0 : x1 = x0) (h1 : x2 < x0) : (0 : Nat) < x0 := by lia
theorem k95 {x0 x1 : Nat} (h0 : x0 < (x1 + (1 : Nat))) (h1 : ¬(x0 < x1)) : x0 = x1 := by lia
theorem k96 {x0 x1 x2 x3 : Nat} (h0 : x3 = x0) (h1 : (x0 - x1) < (x2 + (1 : Nat))) (h2 : x1 < x0) : (x0 - (x1 + (1 : Nat))) < x2 := by lia
theorem k97 {x0 : Nat} {y0 : Int} (h0 : (0 : Int) ≤ y0) (h1 : y0 < ((x0 : Nat) : Int)) : (y0).toNat < x0 := by lia
theorem k98 {x0 : Nat} (h0 : (0 : Int) < ((x0 : Nat) : Int)) : ((x0 : Nat) : Int) ≠ (0 : Int) := by lia
theorem k99 {x0 x1 x2 : Nat} (h0 : x1 = x0) (h1 : x2 < x0) : (0 : Int) < ((x0 : Nat) : Int) := by lia
theorem k100 {y0 : Int} (h0 : (0 : Int) < y0) (h1 : y0 < (1073741824 : Int)) : y0 ≠ (0 : Int) := by lia
theorem k101 : ¬((-(1 : Int)) > (0 : Int)) := by lia
theorem k102 {x0 : Nat} : x0 < ((x0 + (1 : Nat)) + (1 : Nat)) := by lia
theorem k103 {x0 x1 x2 : Nat} (h0 : x0 < (((x1 + (1 : Nat)) + x2) + (1 : Nat))) : x0 < ((x1 + (x2 + (1 : Nat))) + (1 : Nat)) := by lia
theorem k104 {x0 x1 : Nat} (h0 : x0 < (((0 : Nat) + x1) + (1 : Nat))) (h1 : x1 < x0) : False := by lia
theorem k105 {x0 : Nat} {y0 : Int} : (y0 + (((x0 : Nat) : Int) - y0)) = ((x0 : Nat) : Int) := by lia
theorem k106 {x0 : Nat} (h0 : (0 : Nat) < x0) : ((x0 : Nat) : Int) ≠ (0 : Int) := by lia
theorem k107 {x0 : Nat} (h0 : (0 : Nat) < x0) : (0 : Int) < ((x0 : Nat) : Int) := by lia
theorem k108 {x0 x1 : Nat} (h0 : x0 < x1) (h1 : x0 = x1) : False := by lia
theorem k109 {x0 : Nat} : ((0 : Nat) + x0) = x0 := by lia
theorem k110 {x0 : Nat} : x0 < (x0 + (1 : Nat)) := by lia
theorem k111 {x0 : Nat} (h0 : x0 = (1 : Nat)) : (0 : Nat) < x0 := by lia
theorem k112 {x0 x1 x2 x3 : Nat} (h0 : (x0 + (x1 - x2)) ≤ x3) (h1 : x3 ≤ x0) (h2 : (0 : Nat) < (x1 - x2)) : False := by lia
theorem k113 {x0 x1 : Nat} (h0 : x1 < x0) : (0 : Nat) < (x0 - x1) := by lia
theorem k114 {x0 x1 : Nat} (h0 : ((x1 : Nat) : Int) = ((x0 : Nat) : Int)) : x0 = x1 := by lia
theorem k115 {x0 x1 x2 x3 x4 : Nat} (h0 : (x0 + x3) = x4) : ((x0 + x1) + (x2 + x3)) = ((x2 + x1) + x4) := by lia
theorem k116 {x0 x1 x2 x3 x4 : Nat} (h0 : x3 < x4) (h1 : (x0 + (1 : Nat)) ≤ x1) : (x0 + (1 : Nat)) ≤ (x1 + x2) := by lia
theorem k117 {x0 x1 : Nat} (h0 : x0 ≤ x1) (h1 : x1 ≤ (x0 - (1 : Nat))) (h2 : (0 : Nat) < x0) : False := by lia
theorem k118 {x0 : Nat} {y0 : Int} (h0 : ((0 : Int) ≤ y0) ∧ (y0 < ((x0 : Nat) : Int))) : (((y0).toNat : Nat) : Int) = y0 := by lia
theorem k119 {x0 : Nat} {y0 : Int} (h0 : ((0 : Int) ≤ y0) ∧ (y0 < ((x0 : Nat) : Int))) : (y0).toNat < x0 := by lia
theorem k120 {x0 x1 x2 : Nat} (h0 : ((x0 : Nat) : Int) = ((x1 : Nat) : Int)) (h1 : x2 ≠ x1) (h2 : x0 = x2) : False := by lia
theorem k121 {x0 : Nat} : ¬(x0 < (0 : Nat)) := by lia
theorem k122 {x0 x1 x2 x3 : Nat} (h0 : (x1 + (x2 + (1 : Nat))) = x3) (h1 : x0 < x1) : x0 ≠ x1 := by lia
theorem k123 {x0 x1 x2 x3 : Nat} (h0 : (x2 + (x3 + (1 : Nat))) = x1) (h1 : x2 < x1) (h2 : x0 < x2) : x0 < x1 := by lia
theorem k124 {x0 x1 x2 x3 : Nat} (h0 : (x1 + (x2 + (1 : Nat))) = x3) (h1 : ¬(x0 < x1)) (h2 : ¬(x0 = x1)) : ¬(x0 < (x1 + (1 : Nat))) := by lia
theorem k125 {x0 x1 x2 x3 : Nat} (h0 : (x1 + (x2 + (1 : Nat))) = x3) (h1 : x0 = x1) : x0 < (x1 + (1 : Nat)) := by lia
theorem k126 {x0 x1 x2 x3 : Nat} (h0 : (x1 + (x2 + (1 : Nat))) = x3) (h1 : x0 < x1) : ¬(x0 = x1) := by lia
theorem k127 {x0 x1 x2 : Nat} (h0 : (x0 + (x1 + (1 : Nat))) = x2) : ((x0 + (1 : Nat)) + x1) = x2 := by lia
theorem k128 {x0 x1 x2 : Nat} (h0 : (x0 + (x2 + (1 : Nat))) = x1) : x0 < x1 := by lia
theorem k129 (h0 : (1 : Nat) ≤ (0 : Nat)) : False := by lia
theorem k130 {x0 : Nat} : (2 : Nat) ≤ ((x0 + (1 : Nat)) + (1 : Nat)) := by lia
theorem k131 {x0 : Nat} : (1 : Nat) ≤ (x0 + (1 : Nat)) := by lia
theorem k132 {x0 x1 x2 : Nat} (h0 : (x0 + (x1 + (1 : Nat))) = x2) (h1 : x0 < x2) : ((x0 + (1 : Nat)) + x1) = x2 := by lia
theorem k133 {x0 x1 : Nat} (h0 : (x0 + (0 : Nat)) = x1) : x0 = x1 := by lia
theorem k134 {x0 x1 x2 : Nat} (h0 : x0 ≤ (6 : Nat)) (h1 : x1 = x0) (h2 : x2 = (x0 + (1 : Nat))) : (x0 + (1 : Nat)) ≤ (16777216 : Nat) := by lia
theorem k135 {x0 x1 : Nat} (h0 : x1 ≠ x0) : ¬(((x0 : Nat) : Int) = ((x1 : Nat) : Int)) := by lia
theorem k136 {x0 x1 : Nat} (h0 : x0 ≤ x1) : ((min x0 x1) + ((x1 - x0) + (1 : Nat))) = (x1 + (1 : Nat)) := by lia
theorem k137 {x0 x1 : Nat} (h0 : x1 ≤ (1000 : Nat)) (h1 : x1 = x0) : x0 ≤ (1000 : Nat) := by lia
theorem k138 {x0 x1 x2 : Nat} (h0 : (2 : Nat) ≤ x0) (h1 : x0 < (64 : Nat)) (h2 : x1 = x0) (h3 : x2 = x0) : x0 ≤ (16777216 : Nat) := by lia
theorem k139 {x0 : Nat} (h0 : (2 : Nat) ≤ x0) (h1 : x0 < (64 : Nat)) : x0 ≤ (16777216 : Nat) := by lia
theorem k140 {x0 x1 x2 x3 x4 : Nat} (h0 : (2 : Nat) ≤ x0) (h1 : x0 < (64 : Nat)) (h2 : x1 = x0) (h3 : x0 = x2) (h4 : x3 = x0) (h5 : x4 = x0) : x0 ≤ ((16777216 : Nat) + (1 : Nat)) := by lia
theorem k141 {x0 x1 : Nat} (h0 : (2 : Nat) ≤ x1) (h1 : x1 < (64 : Nat)) (h2 : x0 = x1) : (0 : Nat) < x0 := by lia
theorem k142 {x0 : Nat} (h0 : (0 : Nat) < x0) (h1 : (0 : Nat) = x0) : False := by lia
theorem k143 {x0 : Nat} (h0 : (2 : Nat) ≤ x0) (h1 : x0 < (64 : Nat)) : ¬(x0 < (2 : Nat)) := by lia
theorem k144 {x0 x1 : Nat} (h0 : (x0 + (2 : Nat)) = x1) : x0 ≤ x1 := by lia
theorem k145 {x0 x1 : Nat} (h0 : x1 = (x0 + (2 : Nat))) : x0 ≤ x1 := by lia
theorem k146 {x0 : Nat} : x0 ≤ (x0 + (2 : Nat)) := by lia
theorem k147 {x0 : Nat} : (x0 + (2 : Nat)) ≠ x0 := by lia
theorem k148 {x0 x1 x2 : Nat} (h0 : x1 < x2) (h1 : x0 = (x2 + (2 : Nat))) : x0 ≠ x1 := by lia
theorem k149 {x0 x1 : Nat} (h0 : x0 < x1) (h1 : x0 = (x1 + (2 : Nat))) : False := by lia
theorem k150 {x0 : Nat} (h0 : x0 < (64 : Nat)) : x0 ≤ (16777216 : Nat) := by lia
theorem k151 {x0 x1 x2 : Nat} (h0 : x1 = x2) (h1 : x2 ≤ (8 : Nat)) (h2 : x0 = x2) : x0 < (64 : Nat) := by lia
theorem k152 {x0 x1 x2 : Nat} (h0 : x0 < x1) (h1 : x1 = x2) (h2 : x1 ≤ x0) : False := by lia
theorem k153 {x0 x1 x2 : Nat} (h0 : x0 < x2) (h1 : x2 = x1) : x0 ≤ x1 := by lia
theorem k154 {x0 x1 : Nat} (h0 : (x0 + (1 : Nat)) ≤ (x1 + (1 : Nat))) : ((x0 + (1 : Nat)) - (1 : Nat)) ≤ x1 := by lia
theorem k155 {x0 x1 : Nat} (h0 : (x0 ≤ x1) ∧ (x1 < (x0 + (0 : Nat)))) : False := by lia
theorem k156 {x0 x1 : Nat} (h0 : x0 ≤ x1) (h1 : ¬(x0 < x1)) : x0 = x1 := by lia
theorem k157 {x0 x1 : Nat} (h0 : x1 < x0) : (x0 - (x1 + (1 : Nat))) < (x0 - x1) := by lia
theorem k158 {x0 x1 x2 : Nat} (h0 : x2 = x0) (h1 : x2 ≤ x1) : x0 ≤ x1 := by lia
theorem k159 {x0 : Nat} : (x0 + ((0 : Nat) + (1 : Nat))) ≤ (x0 + (1 : Nat)) := by lia
theorem k160 {x0 : Nat} : x0 ≤ (x0 + (1 : Nat)) := by lia
theorem k161 : (0 : Int) < ((2 : Int) ^ 62) := by lia
theorem k162 : (-((2 : Int) ^ 62)) ≤ (0 : Int) := by lia
theorem k163 {x0 x1 x2 : Nat} (h0 : (x0 + x2) < x1) : x0 < x1 := by lia
theorem k164 {x0 x1 x2 : Nat} (h0 : (x0 + (x2 + (1 : Nat))) < x1) : x0 < x1 := by lia
theorem k165 {x0 x1 x2 : Nat} (h0 : (x0 + (x1 + (1 : Nat))) < x2) : ((x0 + (1 : Nat)) + x1) < x2 := by lia
theorem k166 {x0 x1 x2 : Nat} (h0 : x0 < x1) : ¬(((min (x0 + (1 : Nat)) x1) = (0 : Nat)) ∧ (x2 = x1)) := by lia
theorem k167 {x0 x1 x2 : Nat} (h0 : x1 < x2) : ¬((x0 = (0 : Nat)) ∧ ((min x1 x2) = x2)) := by lia
theorem k168 {x0 x1 x2 x3 : Nat} (h0 : x2 = x0) (h1 : x3 = x1) (h2 : ¬(x2 = x3)) : x0 ≠ x1 := by lia
theorem k169 {x0 x1 x2 x3 : Nat} (h0 : x2 = x0) (h1 : x3 = x1) (h2 : x2 = x3) : x0 = x1 := by lia
theorem k170 {x0 x1 x2 : Nat} (h0 : x1 = x2) (h1 : x0 < x1) : x0 < (min x1 x2) := by lia
theorem k171 {x0 x1 x2 : Nat} (h0 : x1 = x2) (h1 : x0 < (min x1 x2)) : x0 < x1 := by lia
theorem k172 {x0 x1 x2 x3 x4 : Nat} (h0 : (x3 + x4) ≤ x2) (h1 : x3 = x0) (h2 : x4 = x1) : (x0 + x1) ≤ x2 := by lia
theorem k173 {x0 x1 : Nat} (h0 : x0 ≤ x1) : ¬(x0 > x1) := by lia
theorem k174 {x0 x1 x2 : Nat} (h0 : x1 < ((2 : Nat) ^ 63)) (h1 : x2 ≤ x1) (h2 : x2 = x0) : ((x0 : Nat) : Int) < ((2 : Int) ^ 63) := by lia
theorem k175 {x0 : Nat} {y0 : Int} (h0 : ¬(y0 < (0 : Int))) : (max (0 : Int) (min y0 ((x0 : Nat) : Int))) = (((min (y0).toNat x0) : Nat) : Int) := by lia
theorem k176 {x0 : Nat} {y0 : Int} (h0 : y0 < (0 : Int)) : (max (0 : Int) (min (y0 + ((x0 : Nat) : Int)) ((x0 : Nat) : Int))) = ((((y0 + ((x0 : Nat) : Int))).toNat : Nat) : Int) := by lia
theorem k177 {x0 x1 x2 x3 : Nat} {y0 : Int} (h0 : x0 ≤ x1) (h1 : x2 < x0) (h2 : y0 < ((x0 : Nat) : Int)) (h3 : x0 = x3) (h4 : x1 < ((2 : Nat) ^ 63)) : y0 < ((2 : Int) ^ 63) := by lia
theorem k178 {x0 x1 x2 x3 : Nat} {y0 : Int} (h0 : x0 ≤ x1) (h1 : x2 < x0) (h2 : (-((x0 : Nat) : Int)) ≤ y0) (h3 : x0 = x3) (h4 : x1 < ((2 : Nat) ^ 63)) : (-((2 : Int) ^ 63)) ≤ y0 := by lia
theorem k179 {x0 x1 x2 : Nat} {y0 : Int} (h0 : x0 ≤ x1) (h1 : (-((x0 : Nat) : Int)) ≤ y0) (h2 : x0 = x2) (h3 : x1 < ((2 : Nat) ^ 63)) : (-((2 : Int) ^ 63)) ≤ y0 := by lia
theorem k180 {x0 x1 : Nat} {y0 : Int} (h0 : (-((x1 : Nat) : Int)) ≤ y0) (h1 : x1 = x0) : (-((x0 : Nat) : Int)) ≤ y0 := by lia
theorem k181 {y0 : Int} (h0 : ¬((0 : Int) ≤ y0)) : y0 < (0 : Int) := by lia
theorem k182 {x0 x1 x2 : Nat} {y0 : Int} (h0 : x0 ≤ x1) (h1 : y0 < ((x0 : Nat) : Int)) (h2 : x0 = x2) (h3 : x1 < ((2 : Nat) ^ 63)) : y0 < ((2 : Int) ^ 63) := by lia
theorem k183 {x0 : Nat} : (((-(1 : Int)) + (((x0 + (1 : Nat)) : Nat) : Int))).toNat = x0 := by lia
theorem k184 {x0 : Nat} : (-(((x0 + (1 : Nat)) : Nat) : Int)) ≤ (-(1 : Int)) := by lia
theorem k185 {x0 : Nat} {y0 : Int} (h0 : ¬((0 : Int) ≤ y0)) (h1 : (-((x0 : Nat) : Int)) ≤ y0) : y0 < ((x0 : Nat) : Int) := by lia
theorem k186 {x0 x1 : Nat} {y0 : Int} (h0 : ¬((0 : Int) ≤ y0)) (h1 : (-((x1 : Nat) : Int)) ≤ y0) (h2 : ((y0 + ((x1 : Nat) : Int))).toNat = x0) : x0 < x1 := by lia
theorem k187 {x0 : Nat} {y0 : Int} (h0 : (0 : Int) ≤ y0) : (-((x0 : Nat) : Int)) ≤ y0 := by lia
theorem k188 {x0 x1 : Nat} {y0 : Int} (h0 : (0 : Int) ≤ y0) (h1 : y0 < ((x1 : Nat) : Int)) (h2 : (y0).toNat = x0) : x0 < x1 := by lia
theorem k189 {x0 x1 x2 : Nat} (h0 : x0 ≤ x1) (h1 : ((x2 : Nat) : Int) = (0 : Int)) (h2 : (x0 - x2) = x1) : x0 = x1 := by lia
theorem k190 {x0 : Nat} (h0 : ((x0 : Nat) : Int) = (0 : Int)) : x0 = (0 : Nat) := by lia
theorem k191 {x0 x1 x2 x3 : Nat} (h0 : x2 ≤ x3) : (min (x0 - x1) (x2 - x1)) ≤ x3 := by lia
theorem k192 {x0 x1 : Nat} : ((((x0 : Nat) : Int) + (((x1 : Nat) : Int) * (1 : Int)))).toNat = (x0 + x1) := by lia
theorem k193 : (1 : Int) > (0 : Int) := by lia
theorem k194 : ¬((1 : Int) < (0 : Int)) := by lia
theorem k195 {x0 : Nat} {y0 : Int} (h0 : ¬(y0 < (0 : Int))) : (min y0 ((x0 : Nat) : Int)) = (((min (y0).toNat x0) : Nat) : Int) := by lia
theorem k196 {x0 : Nat} {y0 : Int} : (max (y0 + ((x0 : Nat) : Int)) (0 : Int)) = ((((y0 + ((x0 : Nat) : Int))).toNat : Nat) : Int) := by lia
theorem k197 {x0 x1 : Nat} {y0 : Int} (h0 : x1 ≤ x0) (h1 : y0 < (0 : Int)) : ((y0 + ((x0 : Nat) : Int))).toNat ≤ x0 := by lia
theorem k198 {x0 : Nat} : ¬(((x0 : Nat) : Int) < (0 : Int)) := by lia
theorem k199 {x0 x1 x2 : Nat} (h0 : x0 = x2) (h1 : x2 ≤ x1) : (x0 + (x1 - x0)) = x1 := by lia
theorem k200 {x0 x1 x2 : Nat} (h0 : ((x0 + ((16 : Nat) * (x1 + (1 : Nat)))) + (200 : Nat)) < x2) : (((x0 + (3 : Nat)) + ((16 : Nat) * x1)) + (200 : Nat)) < x2 := by lia
theorem k201 {x0 x1 x2 : Nat} (h0 : ((x0 + ((3 : Nat) * (x1 + (1 : Nat)))) + (5 : Nat)) < x2) : (((x0 + (1 : Nat)) + ((3 : Nat) * x1)) + (5 : Nat)) < x2 := by lia
theorem k202 {y0 : Int} (h0 : (0 : Int) < y0) : (0 : Int) ≤ y0 := by lia
theorem k203 {y0 : Int} (h0 : (0 : Int) < y0) : y0 ≠ (0 : Int) := by lia
theorem k204 {y0 : Int} (h0 : (0 : Int) < y0) (h1 : y0 < (1073741824 : Int)) : (0 : Int) ≤ y0 := by lia
theorem k205 {x0 x1 x2 : Nat} (h0 : x2 ≤ x1) (h1 : x2 = x0) : x0 ≤ x1 := by lia
end Om
namespace L2
open PySem PySem.Spec PyProof.Rows
noncomputable abbrev Key := Sum Int Str
noncomputable def keyIs : Key -> Value -> Bool
 | .inl k, v => Value.isInt k v
 | .inr x, v => Value.isStrOf x v
noncomputable def keyH (w : World) : Key -> Int
 | .inl k => hashInt k
 | .inr x => hashStr w x
theorem keyIs_shape : ∀ {k : Key} {v : Value}, keyIs k v = true -> (∃ i t, k = Sum.inl i /\ v = Value.int i t) \/ (∃ x t, k = Sum.inr x /\ v = Value.str x t)
 | .inl i, v, h => by
  obtain ⟨t, e⟩ := Value.isInt_shape (k := i) (v := v) h
  exact .inl ⟨i, t, rfl, e⟩
 | .inr x, v, h => by
  obtain ⟨t, e⟩ := Value.isStrOf_shape (x := x) (v := v) h
  exact .inr ⟨x, t, rfl, e⟩
theorem keyIs_int (i : Int) (t : Tok) : keyIs (.inl i) (.int i t) = true := by simp [keyIs, Value.isInt]
theorem keyIs_str (x : Str) (t : Tok) : keyIs (.inr x) (.str x t) = true := by simp [keyIs, Value.isStrOf]
theorem key_ll (a b : Int) : decide ((Sum.inl a : Key) = Sum.inl b) = (a == b) := by
 by_cases e : a = b
 ·subst e; simp
 ·have h : ¬ (Sum.inl a : Key) = Sum.inl b := fun q => e (Sum.inl.inj q)
  rw [decide_eq_false h]
  exact (beq_eq_false_iff_ne.mpr e).symm
theorem key_rr (a b : Str) : decide ((Sum.inr a : Key) = Sum.inr b) = decide (a = b) := by
 by_cases e : a = b
 ·subst e; simp
 ·have h : ¬ (Sum.inr a : Key) = Sum.inr b := fun q => e (Sum.inr.inj q)
  rw [decide_eq_false h, decide_eq_false e]
theorem key_lr (a : Int) (b : Str) : decide ((Sum.inl a : Key) = Sum.inr b) = false := decide_eq_false (fun q => nomatch q)
theorem key_rl (a : Str) (b : Int) : decide ((Sum.inr a : Key) = Sum.inl b) = false := decide_eq_false (fun q => nomatch q)
noncomputable def mixKind (prog : Program) (w : World) : PySem.KeyKind prog w Key where
 is := keyIs
 hash := keyH w
 inj := fun v a b ha hb => by
  rcases keyIs_shape ha with ⟨i, t, rfl, rfl⟩ | ⟨x, t, rfl, rfl⟩
  ·rcases keyIs_shape hb with ⟨j, u, rfl, e⟩ | ⟨y, u, rfl, e⟩
   ·injection e with e1 _; rw [e1]
   ·exact nomatch e
  ·rcases keyIs_shape hb with ⟨j, u, rfl, e⟩ | ⟨y, u, rfl, e⟩
   ·exact nomatch e
   ·injection e with e1 _; rw [e1]
 byValue := fun k v h => by
  rcases keyIs_shape h with ⟨i, t, rfl, rfl⟩ | ⟨x, t, rfl, rfl⟩ <;> rfl
 pyHash := fun hv h => by
  rcases keyIs_shape hv with ⟨i, t, rfl, rfl⟩ | ⟨x, t, rfl, rfl⟩
  ·exact wpAny_pyHash_int h
  ·exact wpAny_pyHash_str h
 eqBool := fun hu hv h => by
  rcases keyIs_shape hu with ⟨i, t, rfl, rfl⟩ | ⟨x, t, rfl, rfl⟩
  ·rcases keyIs_shape hv with ⟨j, u, rfl, rfl⟩ | ⟨y, u, rfl, rfl⟩
   ·rw [key_ll] at h; exact wpAny_eqBool_int h
   ·rw [key_lr] at h; exact SeqAt.EqAt.int_str i t y u _ _ _ _ h
  ·rcases keyIs_shape hv with ⟨j, u, rfl, rfl⟩ | ⟨y, u, rfl, rfl⟩
   ·rw [key_rl] at h; exact SeqAt.EqAt.str_int x t j u _ _ _ _ h
   ·rw [key_rr] at h; exact wpAny_eqBool_str h
 «strs» := fun k x t v h => by
  rcases keyIs_shape h with ⟨i, u, rfl, e⟩ | ⟨y, u, rfl, e⟩
  ·exact nomatch e
  ·injection e with e1 _
   subst e1
   cases v <;> rfl
theorem mixKind_int (prog : Program) (w : World) (i : Int) (t : Tok) : (mixKind prog w).is (.inl i) (.int i t) = true := keyIs_int i t
theorem mixKind_str (prog : Program) (w : World) (x : Str) (t : Tok) : (mixKind prog w).is (.inr x) (.str x t) = true := keyIs_str x t
end L2
namespace L2
open PySem PySem.Spec PyProof.Rows
inductive V where
 | non | bl (b : Bool) | int (i : Int) | str (x : Str) | byt (b : Array UInt8) | flt (b : UInt64) | ref (a : Addr) | ty (n : String)
 deriving DecidableEq
noncomputable def RelV : V -> Value -> Prop
 | .non, u => u = Value.none
 | .bl b, u => u = Value.bool b
 | .int i, u => ∃ t, u = Value.int i t
 | .str x, u => ∃ t, u = Value.str x t
 | .byt b, u => ∃ t, u = Value.bytes b t
 | .flt b, u => ∃ t, u = Value.float b t
 | .ref a, u => u = Value.ref a
 | .ty n, u => u = Value.type n
noncomputable abbrev Vals : List V -> List Value -> Prop := Paired RelV
theorem Vals.length {xs : List V} {us : List Value} (r : Vals xs us) : xs.length = us.length := Paired.length r
theorem Vals.get : ∀ {xs : List V} {us : List Value} {i : Nat} {x : V}, Vals xs us -> xs[i]? = some x -> ∃ u, us[i]? = some u /\ RelV x u
 | _, _, _, _, .nil, e => by simp at e
 | _, _, 0, _, .cons r _, e => by simp at e; subst e; exact ⟨_, rfl, r⟩
 | _, _, i + 1, x, .cons _ t, e => by
  obtain ⟨u, h1, h2⟩ := Vals.get (i := i) (x := x) t (by simpa using e)
  exact ⟨u, by simpa using h1, h2⟩
theorem Vals.append : ∀ {xs ys : List V} {us ws : List Value}, Vals xs us -> Vals ys ws -> Vals (xs ++ ys) (us ++ ws)
 | _, _, _, _, .nil, s => s
 | _, _, _, _, .cons r t, s => .cons r (Vals.append t s)
theorem Vals.take : ∀ {xs : List V} {us : List Value} (n : Nat), Vals xs us -> Vals (xs.take n) (us.take n)
 | _, _, 0, _ => .nil
 | _, _, _ + 1, .nil => .nil
 | _, _, n + 1, .cons r t => .cons r (Vals.take n t)
theorem Vals.drop : ∀ {xs : List V} {us : List Value} (n : Nat), Vals xs us -> Vals (xs.drop n) (us.drop n)
 | _, _, 0, r => r
 | _, _, _ + 1, .nil => .nil
 | _, _, n + 1, .cons _ t => Vals.drop n t
noncomputable def RelO : Option V -> Option Value -> Prop
 | some v, some u => RelV v u
 | none, none => True
 | _, _ => False
noncomputable def KV {κ : Type} : List (κ × V) -> List (κ × Value) -> Prop := Paired fun (p : κ × V) (q : κ × Value) => p.1 = q.1 /\ RelV p.2 q.2
noncomputable def kV : Key -> V
 | .inl i => .int i
 | .inr x => .str x
inductive HO where
  | lst (xs : List V)
  | tup (xs : List V)
  | dK (kvs : List (Key × V)) | dT (kvs : List (List Key × V))
  | set (S : Int -> Bool) (n : Nat)
  | ins (C dx : Addr) (fs : List (Str × V))
  | own (x : Addr)
  | xd (fs : List (Str × V))
  | met (f x : Addr)
  | rng (lo hi : Int)
  | frz (o : Obj) (u : HO)
  | tbl (ps : Array Value)
  | ext (φ : Heap -> Prop)
noncomputable abbrev Hp := Addr -> Option HO
noncomputable def upd (H : Hp) (a : Addr) (o : HO) : Hp := fun b => if b = a then some o else H b
theorem upd_same {H : Hp} {a : Addr} {o : HO} : upd H a o a = some o := by unfold upd; rw [if_pos rfl]
theorem upd_ne {H : Hp} {a b : Addr} {o : HO} (h : b ≠ a) : upd H a o b = H b := by unfold upd; rw [if_neg h]
theorem ne_of {H : Hp} {a b : Addr} {o u : HO} (h : H a = some o) (h' : H b = some u) (d : o ≠ u) : a ≠ b := by
 intro e; subst e; rw [h] at h'; exact d (Option.some.inj h')
theorem ne_of_none {H : Hp} {a b : Addr} {o : HO} (h : H a = some o) (h' : H b = none) : a ≠ b := by
 intro e; subst e; rw [h] at h'; cases h'
noncomputable def IsTupN (h : Heap) (a : Addr) (items : Array Value) : Prop := ∃ o, h.get? a = some o /\ o.cls = .type "tuple" /\ ∃ n, (o.data, o.dict) = (.seq items n, none)
theorem IsTupN.is {h : Heap} {a : Addr} {items : Array Value} (x : IsTupN h a items) : IsTup h a items := let ⟨o, g, c, n, e⟩ := x; ⟨o, g, c, n, congrArg Prod.fst e⟩
theorem IsTupN.new (h : Heap) (items : Array Value) : IsTupN (h.push { cls := .type "tuple", data := .seq items }) h.objs.size items := ⟨_, Heap.get?_push_size _ rfl, rfl, _, rfl⟩
section
variable (P : Program) (w : World)
noncomputable def ObjOk (H : Hp) (h : Heap) (a : Addr) : HO -> Prop
 | .lst xs => xs.length <= sizeLine /\ ∃ (its : List Value) (n : Nat), Vals xs its /\ h.get? a = some { cls := .type "list", data := .seq its.toArray n }
 | .tup xs => xs.length <= sizeLine /\ ∃ its : List Value, Vals xs its /\ IsTupN h a its.toArray
 | .dK kvs => kvs.length <= sizeLine /\ (a == sysModules) = false /\ ∃ vs, KV kvs vs /\ h.DictOf (mixKind P w) a vs
 | .dT kvs => kvs.length <= sizeLine /\ (a == sysModules) = false /\ ∃ xs : List (List Key × Addr × Value),
   Paired (fun (p : List Key × V) (q : List Key × Addr × Value) => p.1 = q.1 /\ H q.2.1 = some (.tup (p.1.map kV)) /\ RelV p.2 q.2.2) kvs xs /\
   ∃ o es ep, h.get? a = some o /\ o.ExactDict /\ o.data = .dict es ep /\ es.toList = xs.map (entryOfKey (tupleKind (mixKind P w))) /\ (xs.map (·.1)).Nodup
 | .set S n => h.SetOf (intKind P w) a S n
 | .ins C dx fs => H dx = some (.own a) /\ fs.length <= 1000 /\ dx ≠ a /\ h.get? a = some (PySem.W.instObj C dx) /\
   ∃ mA, h.Ns1 dx mA /\ (∀ f, RelO (fs.lookup f) (mA f)) /\ PySem.Within mA (fs.map (·.1))
 | .own _ => ∃ o, h.get? a = some o
 | .xd fs => ∃ mA, h.Ns1 a mA /\ ∀ f, RelO (fs.lookup f) (mA f)
 | .rng lo hi => ∃ t u v, h.get? a = some { cls := .type "range", data := .fields #[.int lo t, .int hi u, .int 1 v] }
 | .frz o u => h.get? a = some o /\ ObjOk H h a u
 | .tbl ps => ∃ qs : Array Value, h.get? a = some { cls := .none, data := .fields qs } /\ TriplesOk qs.toList /\ ∀ pos cv, codeAmong pos qs.toList = some cv -> ∃ (c' : Addr) (oc : Obj) (vs : Array Value) (q : Str) (t : Tok), cv = .ref c' /\ H c' = some (.own a) /\ h.get? c' = some oc /\ oc.data = .fields vs /\ vs[1]? = some (.str q t) /\ ps = #[.str q 0]
 | .met f x => h.get? a = some (PySem.W.methodObj (.ref f) (.ref x))
 | .ext φ => φ h /\ (∃ o, h.get? a = some o) /\ ∀ h1 h2 : Heap, φ h1 -> (∀ o, h1.get? a = some o -> h2.get? a = some o) -> φ h2
noncomputable def HOk (H : Hp) (h : Heap) : Prop := ∀ a o, H a = some o -> ObjOk P w H h a o
end
section
variable {P : Program} {w : World} {H H' : Hp} {h h' : Heap} {a : Addr} {o : HO}
theorem ObjOk.lt (x : ObjOk P w H h a o) : a < h.objs.size := by
 cases o with
 | lst xs => obtain ⟨_, _, _, _, e⟩ := x; exact Heap.lt_size e
 | tup xs => obtain ⟨_, _, _, p⟩ := x; exact IsTup.lt (IsTupN.is p)
 | dK kvs => obtain ⟨_, _, _, _, o, _, _, e, _⟩ := x; exact Heap.lt_size e
 | dT kvs => obtain ⟨_, _, _, _, o, _, _, e, _⟩ := x; exact Heap.lt_size e
 | set S n => obtain ⟨o, _, _, _, e, _⟩ := x; exact Heap.lt_size e
 | ins C dx fs => obtain ⟨_, _, _, e, _⟩ := x; exact Heap.lt_size e
 | own y => obtain ⟨_, e⟩ := x; exact Heap.lt_size e
 | xd fs => obtain ⟨_, ⟨_, _, _, e, _⟩, _⟩ := x; exact Heap.lt_size e
 | rng lo hi => obtain ⟨_, _, _, e⟩ := x; exact Heap.lt_size e
 | frz ob u => obtain ⟨e, _⟩ := x; exact Heap.lt_size e
 | tbl ps => obtain ⟨_, e, _⟩ := x; exact Heap.lt_size e
 | met f y => exact Heap.lt_size (show h.get? a = some _ from x)
 | ext φ => obtain ⟨_, ⟨_, e⟩, _⟩ := x; exact Heap.lt_size e
theorem Paired.mapP {α β : Type} {F G : α -> β -> Prop} : ∀ {l₁ : List α} {l₂ : List β}, Paired F l₁ l₂ -> (∀ a b, F a b -> G a b) -> Paired G l₁ l₂
 | _, _, .nil, _ => .nil
 | _, _, .cons r t, f => .cons (f _ _ r) (Paired.mapP t f)
theorem ObjOk.stay (x : ObjOk P w H h a o) (k : ∀ b u, (b = a \/ H b = some (.own a)) -> h.get? b = some u -> h'.get? b = some u)
  (ho : ∀ b, H b = some (.own a) -> H' b = some (.own a)) (ht : ∀ b xs, H b = some (.tup xs) -> H' b = some (.tup xs)) : ObjOk P w H' h' a o := by
 induction o with
 | lst xs => obtain ⟨z, its, n, r, e⟩ := x; exact ⟨z, its, n, r, k _ _ (.inl rfl) e⟩
 | tup xs => obtain ⟨z, its, r, ob, e, c⟩ := x; exact ⟨z, its, r, ob, k _ _ (.inl rfl) e, c⟩
 | dK kvs => obtain ⟨z, y, vs, r, ob, es, ep, e, c⟩ := x; exact ⟨z, y, vs, r, ob, es, ep, k _ _ (.inl rfl) e, c⟩
 | dT kvs =>
  obtain ⟨z, y, xs, r, ob, es, ep, e, c⟩ := x
  exact ⟨z, y, xs, Paired.mapP r fun p q z => ⟨z.1, ht _ _ z.2.1, z.2.2⟩, ob, es, ep, k _ _ (.inl rfl) e, c⟩
 | set S n => obtain ⟨ob, es, ep, t, e, c⟩ := x; exact ⟨ob, es, ep, t, k _ _ (.inl rfl) e, c⟩
 | ins C dx fs =>
  obtain ⟨d, z, ne, e, mA, ⟨od, es, ep, e2, c⟩, r⟩ := x
  exact ⟨ho _ d, z, ne, k _ _ (.inl rfl) e, mA, ⟨od, es, ep, k _ _ (.inr d) e2, c⟩, r⟩
 | own y => obtain ⟨ob, e⟩ := x; exact ⟨ob, k _ _ (.inl rfl) e⟩
 | xd fs => obtain ⟨mA, ⟨od, es, ep, e, c⟩, r⟩ := x; exact ⟨mA, ⟨od, es, ep, k _ _ (.inl rfl) e, c⟩, r⟩
 | rng lo hi => obtain ⟨t, u, v, e⟩ := x; exact ⟨t, u, v, k _ _ (.inl rfl) e⟩
 | frz ob u ih => obtain ⟨e, q⟩ := x; exact ⟨k _ _ (.inl rfl) e, ih q⟩
 | tbl ps =>
  obtain ⟨qs, e, tr, al⟩ := x
  refine ⟨qs, k a _ (.inl rfl) e, tr, fun pos cv hq => ?_⟩
  obtain ⟨c', oc, vs, q, t, e1, e2, e3, r⟩ := al pos cv hq
  exact ⟨c', oc, vs, q, t, e1, ho _ e2, k _ _ (.inr e2) e3, r⟩
 | met f y =>
  have e : h.get? a = some (PySem.W.methodObj (.ref f) (.ref y)) := x
  show h'.get? a = some (PySem.W.methodObj (.ref f) (.ref y))
  exact k a _ (.inl rfl) e
 | ext φ => obtain ⟨p, ⟨o, e⟩, st⟩ := x; exact ⟨st _ _ p fun o q => k _ _ (.inl rfl) q, ⟨o, k _ _ (.inl rfl) e⟩, st⟩
theorem HOk.lt (x : HOk P w H h) (e : H a = some o) : a < h.objs.size := (x a o e).lt
theorem HOk.fresh (x : HOk P w H h) (e : h.objs.size <= a) : H a = none := by
 cases q : H a with
 | none => rfl
 | some u => exact absurd (Nat.lt_of_lt_of_le (x.lt q) e) (Nat.lt_irrefl _)
theorem HOk.kept (x : HOk P w H h) (k : ∀ b u, h.get? b = some u -> h'.get? b = some u) : HOk P w H h' := fun a o e =>
 (x a o e).stay (fun b u _ q => k b u q) (fun _ q => q) fun _ _ q => q
theorem HOk.laid (x : HOk P w H h) (k : ∀ b u, h.get? b = some u -> h'.get? b = some u) (hp : h.objs.size <= a) (new : ObjOk P w (upd H a o) h' a o) : HOk P w (upd H a o) h' := fun b u e => by
 have hn := x.fresh hp
 by_cases hb : b = a
 ·subst hb; rw [upd_same] at e; cases e; exact new
 ·rw [upd_ne hb] at e
  exact (x b u e).stay (fun c v _ q => k c v q) (fun c q => by rw [upd_ne (ne_of_none q hn)]; exact q) fun c xs q => by rw [upd_ne (ne_of_none q hn)]; exact q
end
noncomputable def Rd (H : Hp) (a : Addr) (u : HO) : Prop := H a = some u \/ ∃ o, H a = some (.frz o u)
theorem Rd.ok {P : Program} {w : World} {H : Hp} {h : Heap} {a : Addr} {u : HO} (r : Rd H a u) (x : HOk P w H h) : ObjOk P w H h a u := by
 rcases r with r | ⟨o, r⟩
 ·exact x a u r
 ·obtain ⟨_, q⟩ := x a _ r
  exact q
noncomputable def Mut : Option HO -> Prop
 | some (.lst _) => True
 | some (.dK _) => True
 | some (.dT _) => True
 | some (.set _ _) => True
 | some (.ins _ _ _) => True
 | some (.ext _) => True
 | _ => False
section
variable {P : Program} {w : World} {H : Hp} {h h' : Heap} {x e : Addr} {o' : HO}
theorem HOk.write (ok : HOk P w H h) (mu : Mut (H x)) (he : e = x \/ H e = some (.own x)) (k : ∀ b u, b ≠ e -> h.get? b = some u -> h'.get? b = some u) (heo : ∃ u, h'.get? e = some u)
  (new : ObjOk P w (upd H x o') h' x o') : HOk P w (upd H x o') h' := fun b u q => by
 have nown : ∀ c y, H c = some (.own y) -> c ≠ x := fun c y r z => by subst z; rw [r] at mu; exact mu
 have ntup : ∀ c xs, H c = some (.tup xs) -> c ≠ x := fun c xs r z => by subst z; rw [r] at mu; exact mu
 by_cases hb : b = x
 ·subst hb; rw [upd_same] at q; cases q; exact new
 ·rw [upd_ne hb] at q
  by_cases hbe : b = e
  ·have q' : H b = some (.own x) := by
    rcases he with z | z
    ·exact absurd (hbe.trans z) hb
    ·rw [hbe]; exact z
   rw [q] at q'; cases q'
   obtain ⟨v, hv⟩ := heo
   exact ⟨v, by rw [hbe]; exact hv⟩
  ·refine (ok b u q).stay (fun c v hc r => k c v ?_ r) (fun c r => by rw [upd_ne (nown c b r)]; exact r) fun c xs r => by rw [upd_ne (ntup c xs r)]; exact r
   rcases hc with rfl | hc
   ·exact hbe
   ·rintro rfl
    rcases he with z | z
    ·exact nown c b hc z
    ·rw [hc] at z; cases z; exact hb rfl
end
structure Un (fs ex : List Addr) (H H' : Hp) (h h' : Heap) : Prop where
 keep : ∀ b o, h.get? b = some o -> H b = none -> b ∉ fs -> b ∉ ex -> h'.get? b = some o
 slot : ∀ b o, h.get? b = some o -> H b = none -> b ∈ fs -> b ∉ ex -> ∃ sl, h'.get? b = some { o with slots := sl }
 free : ∀ b o, h.get? b = some o -> H b = none -> b ∉ ex -> H' b = none
 there : ∀ b o, h.get? b = some o -> b ∉ ex -> ∃ o', h'.get? b = some o'
 tups : ∀ b xs, H b = some (.tup xs) -> H' b = some (.tup xs)
 frzs : ∀ b o u, H b = some (.frz o u) -> H' b = some (.frz o u)
 tbls : ∀ b ps, H b = some (.tbl ps) -> ∃ more, H' b = some (.tbl (ps ++ more))
section
variable {fs fs' ex ex' : List Addr} {H H1 H2 : Hp} {h h1 h2 h' : Heap} {a x e : Addr} {o : HO}
theorem Un.any (u : Un fs ex H H1 h h1) {b : Addr} {ob : Obj} (q : h.get? b = some ob) (n : H b = none) (hx : b ∉ ex) : ∃ sl, h1.get? b = some { ob with slots := sl } := by
 by_cases hb : b ∈ fs
 ·exact u.slot b ob q n hb hx
 ·exact ⟨ob.slots, u.keep b ob q n hb hx⟩
theorem Un.kept (k : ∀ b u, h.get? b = some u -> h'.get? b = some u) : Un fs ex H H h h' :=
 ⟨fun b ob q _ _ _ => k b ob q, fun b ob q _ _ _ => ⟨ob.slots, k b ob q⟩, fun _ _ _ n _ => n, fun b ob q _ => ⟨ob, k b ob q⟩, fun _ _ q => q, fun _ _ _ q => q, fun _ ps q => ⟨#[], by rw [q]; simp⟩⟩
theorem Un.refl : Un fs ex H H h h := Un.kept fun _ _ q => q
theorem Un.laid (k : ∀ b u, h.get? b = some u -> h'.get? b = some u) (hp : h.objs.size <= a) (hn : H a = none) : Un fs ex H (upd H a o) h h' where
 keep := fun b u q _ _ _ => k b u q
 slot := fun b u q _ _ _ => ⟨u.slots, k b u q⟩
 free := fun b u q n _ => by rw [upd_ne (Nat.ne_of_lt (Nat.lt_of_lt_of_le (Heap.lt_size q) hp))]; exact n
 there := fun b u q _ => ⟨u, k b u q⟩
 tups := fun b xs q => by rw [upd_ne (ne_of_none q hn)]; exact q
 frzs := fun b u xs q => by rw [upd_ne (ne_of_none q hn)]; exact q
 tbls := fun b ps q => ⟨#[], by rw [upd_ne (ne_of_none q hn), q]; simp⟩
theorem Un.write (mu : Mut (H x)) (he : e = x \/ H e = some (.own x)) (k : ∀ b u, b ≠ e -> h.get? b = some u -> h'.get? b = some u) (heo : ∃ u, h'.get? e = some u) : Un fs ex H (upd H x o) h h' := by
 have hx : ∀ b, H b = none -> b ≠ x := fun b n z => by subst z; rw [n] at mu; exact mu
 have hb : ∀ b, H b = none -> b ≠ e := fun b n z => by
  subst z
  rcases he with r | r
  ·exact hx b n r
  ·rw [n] at r; cases r
 have hm : ∀ b u, H b = some u -> ¬ Mut (some u) -> b ≠ x := fun b u q nm z => by subst z; rw [q] at mu; exact nm mu
 refine ⟨fun b u q n _ _ => k b u (hb b n) q, fun b u q n _ _ => ⟨u.slots, k b u (hb b n) q⟩, fun b u q n _ => by rw [upd_ne (hx b n)]; exact n, fun b u q _ => ?_,
  fun b xs q => by rw [upd_ne (hm b _ q fun z => z)]; exact q, fun b u xs q => by rw [upd_ne (hm b _ q fun z => z)]; exact q, fun b ps q => ⟨#[], by rw [upd_ne (hm b _ q fun z => z), q]; simp⟩⟩
 by_cases hbe : b = e
 ·subst hbe; exact heo
 ·exact ⟨u, k b u hbe q⟩
end
noncomputable def trk (h : Heap) (H : Hp) : List Addr := (List.range h.objs.size).filter fun a => (H a).isSome
noncomputable def hidT (h : Heap) (H : Hp) : Heap := PySem.W.hideAll h (trk h H)
theorem hidT_size (h : Heap) (H : Hp) : (hidT h H).objs.size = h.objs.size := PySem.W.hideAll_size _ _
theorem hidT_get {h : Heap} {H : Hp} {b : Addr} {o : Obj} (e : h.get? b = some o) (n : H b = none) : (hidT h H).get? b = some o :=
 PySem.W.hideAll_get _ e fun hm => by
  have q : (H b).isSome = true := (List.mem_filter.mp hm).2
  rw [n] at q; simp at q
theorem of_hidT {h : Heap} {H : Hp} {b : Addr} {o : Obj} (e : (hidT h H).get? b = some o) : h.get? b = some o /\ H b = none := by
 have e' : h.get? b = some o := PySem.W.of_hideAll (trk h H) e
 refine ⟨e', ?_⟩
 cases q : H b with
 | none => rfl
 | some x =>
  have hm : b ∈ trk h H := List.mem_filter.mpr ⟨List.mem_range.mpr (Heap.lt_size e'), by simp [q]⟩
  have z : (hidT h H).get? b = none := PySem.W.hideAll_none (trk h H) hm
  rw [z] at e; cases e
end L2
namespace L2
open PySem PySem.Spec PyProof.Rows
structure Mod (K : PySem.W.Frag) (mg : Str -> Option Value) (base : Heap) : Prop where
 kin : K.In base
 glob : base.Ns mainGlobals mg
 blt : ∃ mb, base.Ns builtinsNs mb /\ ∀ x : Str, x ≠ "__name__" -> mb x = bootBuiltins x
 nolimit : base.NoLimit
structure Cx where
 prog : Program
 w : World
 K : PySem.W.Frag
 mg : Str -> Option Value
 base : Heap
 A : Around
 N : List Str
 s₀ : Shared
 H₀ : Hp
 env : Env
 outer : List Env
 stack : List Env
 ex : List Addr
 fn : Str -> Bool
 calm : Bool
 pn : List (Addr × Obj)
 xe : Value -> Shared -> Prop
noncomputable def frs (l : List Env) : List Addr := l.filterMap (·.frame)
noncomputable abbrev Cx.fs (X : Cx) : List Addr := frs X.outer
noncomputable def Vis (sc : Scope) (x : Str) : Prop := sc.names.lookup x = some .local \/ sc.names.lookup x = some .cell \/ sc.names.lookup x = some .free
noncomputable def Loc (sc : Scope) (x : Str) : Prop := sc.names.lookup x = some .local \/ sc.names.lookup x = some .cell
noncomputable def Look (env : Env) (h : Heap) (m : Str -> Option Value) (x : Str) (u : Value) : Prop :=
 (env.kindOf x = some .local /\ m x = some u) \/ ((env.kindOf x = some .cell \/ env.kindOf x = some .free) /\ ∃ c, env.cells.lookup x = some c /\ h.IsCell c (some u))
structure Cx.Ok (X : Cx) : Prop where
 mod : Mod X.K X.mg X.base
 kind : X.env.scope.kind = .function
 glob : X.env.globals = mainGlobals
 blt : X.env.builtins = builtinsNs
 above : X.s₀.heap.objs.size <= X.env.locals
 inj : ∀ x y c, X.env.cells.lookup x = some c -> X.env.cells.lookup y = some c -> x = y
 has : ∀ x, (X.env.kindOf x = some .cell \/ X.env.kindOf x = some .free) -> ∃ c, X.env.cells.lookup x = some c
 cab : ∀ x c, X.fn x = true -> X.env.cells.lookup x = some c -> X.s₀.heap.objs.size <= c
 hd : X.calm = true -> X.A.handled = none
 frames : X.A.frames = some X.stack
 stk : X.stack = X.outer \/ (X.stack = X.env :: X.outer /\ X.env.frame = some X.env.locals)
 exf : ∀ b ∈ X.ex, b ≠ X.env.locals /\ ∀ x c, X.env.cells.lookup x = some c -> c ≠ b
 bs : ∀ b o, X.base.get? b = some o -> X.s₀.heap.get? b = some o /\ X.H₀ b = none
 bsz : X.base.objs.size <= X.s₀.heap.objs.size
 noex : ∀ b o, X.base.get? b = some o -> b ∉ X.ex
 exfs : ∀ b ∈ X.ex, b ∉ X.fs
 funs : X.s₀.heap.FunFrames X.base X.outer
 frf : ∀ b ∈ X.fs, X.H₀ b = none
structure Inv (X : Cx) (pins : List (Addr × Obj)) (σ : List (Option V)) (H : Hp) (s : Shared) : Prop where
 ok : X.Ok
 os : s.os = X.s₀.os
 bare : AllBare s.gens
 base : Un X.fs X.ex X.H₀ H X.s₀.heap s.heap
 loc : ∃ m, s.heap.Ns X.env.locals m /\ ∀ (i : Nat) (x : Str) (v : V), X.N[i]? = some x -> σ[i]? = some (some v) -> Vis X.env.scope x -> ∃ u, RelV v u /\ Look X.env s.heap m x u
 cell : ∀ x c, X.env.cells.lookup x = some c -> ∃ v, s.heap.IsCell c v
 free : H X.env.locals = none
 freeC : ∀ x c, X.env.cells.lookup x = some c -> H c = none
 pin : ∀ p ∈ X.pn ++ pins, s.heap.get? p.1 = some p.2 /\ H p.1 = none /\ p.1 ≠ X.env.locals /\ p.1 ∉ X.fs /\ ∀ v, p.2.data ≠ .cell v
 hok : HOk X.prog X.w H s.heap
 len : σ.length = X.N.length
section
variable {X : Cx} {pins : List (Addr × Obj)} {σ : List (Option V)} {H H' : Hp} {s : Shared} {h' : Heap}
theorem Cx.Ok.nofr (ok : X.Ok) {b : Addr} {o : Obj} (e : X.base.get? b = some o) : b ∉ X.fs := fun hb => by
 have := (ok.funs.mem hb).1
 rw [e] at this; cases this
theorem Inv.bs (I : Inv X pins σ H s) : ∀ b o, X.base.get? b = some o -> s.heap.get? b = some o /\ H b = none := fun b o e =>
 ⟨I.base.keep b o (I.ok.bs b o e).1 (I.ok.bs b o e).2 (I.ok.nofr e) (I.ok.noex b o e), I.base.free b o (I.ok.bs b o e).1 (I.ok.bs b o e).2 (I.ok.noex b o e)⟩
theorem Inv.bk (I : Inv X pins σ H s) : ∀ b o, X.base.get? b = some o -> s.heap.get? b = some o := fun b o e => (I.bs b o e).1
theorem Inv.mod (I : Inv X pins σ H s) : Mod X.K X.mg X.base := I.ok.mod
theorem Inv.kIn (I : Inv X pins σ H s) : X.K.In s.heap := I.ok.mod.kin.keeps I.bk
theorem Inv.lt (I : Inv X pins σ H s) : X.env.locals < s.heap.objs.size := let ⟨_, hn, _⟩ := I.loc; hn.lt
theorem Inv.sz (I : Inv X pins σ H s) : X.s₀.heap.objs.size <= s.heap.objs.size := Nat.le_trans I.ok.above (Nat.le_of_lt I.lt)
theorem Inv.nofs (I : Inv X pins σ H s) {a : Addr} (h : s.heap.objs.size <= a) : a ∉ X.fs := fun hb => by
 obtain ⟨_, o, ho, _⟩ := I.ok.funs.mem hb
 exact absurd (Nat.lt_of_lt_of_le (Heap.lt_size ho) (Nat.le_trans I.sz h)) (Nat.lt_irrefl _)
theorem Inv.cne (I : Inv X pins σ H s) : ∀ x c, X.env.cells.lookup x = some c -> c ≠ X.env.locals := fun x c e z => by
 obtain ⟨v, o, ho, hd⟩ := I.cell x c e
 obtain ⟨m, ⟨o', es, ep, ho', hd', _⟩, _⟩ := I.loc
 rw [z, ho'] at ho; cases ho; rw [hd'] at hd; cases hd
theorem Inv.funs (I : Inv X pins σ H s) : s.heap.FunFrames X.base X.outer := by
 have all : ∀ (l : List Env), (∀ b ∈ frs l, b ∈ X.fs) -> X.s₀.heap.FunFrames X.base l -> s.heap.FunFrames X.base l := by
  intro l
  induction l with
  | nil => intro _ _; trivial
  | cons env r ih =>
   intro hs hl
   obtain ⟨hk, ⟨L, o, hf, hn, ho, hd⟩, hr⟩ := hl
   have hL : L ∈ X.fs := hs L (by unfold frs; rw [List.filterMap_cons, hf]; exact List.mem_cons_self)
   obtain ⟨sl, e⟩ := I.base.slot L o ho (I.ok.frf L hL) hL fun z => I.ok.exfs L z hL
   exact ⟨hk, ⟨L, _, hf, hn, e, hd⟩, ih (fun b hb => hs b (by unfold frs; rw [List.filterMap_cons, hf]; exact List.mem_cons_of_mem _ hb)) hr⟩
 exact all X.outer (fun _ hb => hb) I.ok.funs
theorem Inv.stack (I : Inv X pins σ H s) : s.heap.FunFrames X.base X.stack := by
 rcases I.ok.stk with e | ⟨e, hf⟩
 ·rw [e]; exact I.funs
 ·rw [e]
  obtain ⟨m, hn, _⟩ := I.loc
  refine .cons (by rw [I.ok.kind]; decide) hf hn ?_ I.funs
  exact Heap.get?_none_of_le (Nat.le_trans I.ok.bsz I.ok.above)
theorem Inv.stkSub (I : Inv X pins σ H s) : ∀ b ∈ frs X.stack, b ∈ X.env.locals :: X.fs := fun b hb => by
 rcases I.ok.stk with e | ⟨e, hf⟩
 ·rw [e] at hb; exact List.mem_cons_of_mem _ hb
 ·rw [e] at hb
  unfold frs at hb
  rw [List.filterMap_cons, hf] at hb
  exact hb
theorem Inv.stkFree (I : Inv X pins σ H s) : ∀ b ∈ frs X.stack, H b = none := fun b hb => by
 rcases List.mem_cons.mp (I.stkSub b hb) with e | hb
 ·rw [e]; exact I.free
 ·obtain ⟨_, o, ho, _⟩ := I.ok.funs.mem hb
  exact I.base.free b o ho (I.ok.frf b hb) fun z => I.ok.exfs b z hb
theorem Inv.step {g' : Array GenState} {t' : Nat} {d' : Drawn} {ch : List Addr} (I : Inv X pins σ H s)
  (hch : ∀ b ∈ ch, (b ∈ X.ex \/ X.s₀.heap.objs.size <= b) /\ b ≠ X.env.locals /\ (∀ x c, X.env.cells.lookup x = some c -> c ≠ b) /\ ∀ p ∈ X.pn ++ pins, p.1 ≠ b)
  (keep : ∀ b o, b ≠ X.env.locals -> b ∉ X.fs -> b ∉ ch -> s.heap.get? b = some o -> H b = none -> h'.get? b = some o)
  (slot : ∀ b o, b ≠ X.env.locals -> b ∈ X.fs -> b ∉ ch -> s.heap.get? b = some o -> H b = none -> ∃ sl, h'.get? b = some { o with slots := sl }) (free : ∀ b o, b ∉ ch -> s.heap.get? b = some o -> H b = none -> H' b = none)
  (there : ∀ b o, b ∉ ch -> s.heap.get? b = some o -> ∃ o', h'.get? b = some o')
  (tups : ∀ b xs, H b = some (.tup xs) -> H' b = some (.tup xs)) (frzs : ∀ b o u, H b = some (.frz o u) -> H' b = some (.frz o u)) (tbls : ∀ b ps, H b = some (.tbl ps) -> ∃ more, H' b = some (.tbl (ps ++ more)))
  (ns : ∀ m, s.heap.Ns X.env.locals m -> h'.Ns X.env.locals m) (hok : HOk X.prog X.w H' h') (hg : AllBare g') :
  Inv X pins σ H' { s with heap := h', gens := g', drawn := d', toks := t' } := by
 have neL : ∀ b o, X.s₀.heap.get? b = some o -> b ≠ X.env.locals := fun b o e => Nat.ne_of_lt (Nat.lt_of_lt_of_le (Heap.lt_size e) I.ok.above)
 have neC : ∀ b o, X.s₀.heap.get? b = some o -> b ∉ X.ex -> b ∉ ch := fun b o e hx hb => by
  rcases (hch b hb).1 with z | z
  ·exact hx z
  ·exact absurd (Nat.lt_of_lt_of_le (Heap.lt_size e) z) (Nat.lt_irrefl _)
 have cellK : ∀ x c, X.env.cells.lookup x = some c -> ∀ v, s.heap.IsCell c v -> h'.IsCell c v := fun x c e v ⟨o, ho, hd⟩ => by
  have nch : c ∉ ch := fun z => (hch c z).2.2.1 x c e rfl
  by_cases hc : c ∈ X.fs
  ·obtain ⟨sl, q⟩ := slot c o (I.cne x c e) hc nch ho (I.freeC x c e)
   exact ⟨_, q, hd⟩
  ·exact ⟨o, keep c o (I.cne x c e) hc nch ho (I.freeC x c e), hd⟩
 refine ⟨I.ok, I.os, hg, ⟨fun b o e n hb hx => ?_, fun b o e n hb hx => ?_, fun b o e n hx => ?_, fun b o e hx => ?_, fun b xs e => tups b xs (I.base.tups b xs e), fun b o xs e => frzs b o xs (I.base.frzs b o xs e), fun b ps e => ?_⟩, ?_, fun x c e => ?_, ?_, fun x c e => ?_, fun p hp => ?_, hok, I.len⟩
 ·exact keep b o (neL b o e) hb (neC b o e hx) (I.base.keep b o e n hb hx) (I.base.free b o e n hx)
 ·obtain ⟨sl, e1⟩ := I.base.slot b o e n hb hx
  obtain ⟨sl', e2⟩ := slot b _ (neL b o e) hb (neC b o e hx) e1 (I.base.free b o e n hx)
  exact ⟨sl', e2⟩
 ·obtain ⟨o', e1⟩ := I.base.there b o e hx
  exact free b o' (neC b o e hx) e1 (I.base.free b o e n hx)
 ·obtain ⟨o', e1⟩ := I.base.there b o e hx
  exact there b o' (neC b o e hx) e1
 ·obtain ⟨m1, e1⟩ := I.base.tbls b ps e
  obtain ⟨m2, e2⟩ := tbls b _ e1
  exact ⟨m1 ++ m2, by rw [e2, Array.append_assoc]⟩
 ·obtain ⟨m, hn, hl⟩ := I.loc
  refine ⟨m, ns m hn, fun i x v e1 e2 e3 => ?_⟩
  obtain ⟨u, r, l⟩ := hl i x v e1 e2 e3
  refine ⟨u, r, ?_⟩
  rcases l with l | ⟨k, c, e, z⟩
  ·exact .inl l
  ·exact .inr ⟨k, c, e, cellK x c e _ z⟩
 ·obtain ⟨v, z⟩ := I.cell x c e
  exact ⟨v, cellK x c e v z⟩
 ·obtain ⟨m, ⟨o, _, _, ho, _⟩, _⟩ := I.loc
  exact free _ o (fun z => (hch _ z).2.1 rfl) ho I.free
 ·obtain ⟨v, o, ho, hd⟩ := I.cell x c e
  exact free c o (fun z => (hch c z).2.2.1 x c e rfl) ho (I.freeC x c e)
 ·obtain ⟨e, n, ne, nf, d⟩ := I.pin p hp
  have nch : p.1 ∉ ch := fun z => (hch p.1 z).2.2.2 p hp rfl
  exact ⟨keep p.1 p.2 ne nf nch e n, free p.1 p.2 nch e n, ne, nf, d⟩
theorem Inv.un {t' : Nat} (I : Inv X pins σ H s) (u : Un X.fs [] H H' s.heap h') (hok : HOk X.prog X.w H' h') : Inv X pins σ H' { s with heap := h', toks := t' } := by
 obtain ⟨m, ⟨o, es, ep, ho, r⟩, _⟩ := id I.loc
 obtain ⟨sl, hL⟩ := u.any ho I.free (by simp)
 exact I.step (g' := s.gens) (d' := s.drawn) (ch := []) (fun _ z => nomatch z) (fun b o _ hb _ e n => u.keep b o e n hb (by simp)) (fun b o _ hb _ e n => u.slot b o e n hb (by simp)) (fun b o _ e n => u.free b o e n (by simp)) (fun b o _ e => u.there b o e (by simp)) u.tups u.frzs u.tbls (fun m' hm => by
  obtain ⟨o', es', ep', ho', r'⟩ := hm
  rw [ho] at ho'; cases ho'
  exact ⟨_, es', ep', hL, r'⟩) hok I.bare
theorem Inv.call {g' : Array GenState} {t' : Nat} {d' : Drawn} {ch : List Addr} (I : Inv X pins σ H s) (u : Un (frs X.stack) ch H H' s.heap h') (hok : HOk X.prog X.w H' h') (hg : AllBare g')
  (hch : ∀ b ∈ ch, (b ∈ X.ex \/ X.s₀.heap.objs.size <= b) /\ b ≠ X.env.locals /\ (∀ x c, X.env.cells.lookup x = some c -> c ≠ b) /\ ∀ p ∈ X.pn ++ pins, p.1 ≠ b) :
  Inv X pins σ H' { s with heap := h', gens := g', drawn := d', toks := t' } := by
 obtain ⟨m, ⟨o, es, ep, ho, r⟩, _⟩ := id I.loc
 obtain ⟨sl, hL⟩ := u.any ho I.free fun z => (hch _ z).2.1 rfl
 exact I.step (ch := ch) hch (fun b o hL hb hc e n => u.keep b o e n (fun z => (List.mem_cons.mp (I.stkSub b z)).elim hL hb) hc) (fun b o _ _ hc e n => u.any e n hc) (fun b o hc e n => u.free b o e n hc) (fun b o hc e => u.there b o e hc) u.tups u.frzs u.tbls (fun m' hm => by
  obtain ⟨o', es', ep', ho', r'⟩ := hm
  rw [ho] at ho'; cases ho'
  exact ⟨_, es', ep', hL, r'⟩) hok hg
theorem Inv.turned {t' : Nat} {it : Addr} (I : Inv X pins σ H s) (k : ∀ b o, b ≠ it -> s.heap.get? b = some o -> h'.get? b = some o) (hn : H it = none) (hL : it ≠ X.env.locals)
  (h1 : it ∈ X.ex \/ X.s₀.heap.objs.size <= it) (h2 : ∀ x c, X.env.cells.lookup x = some c -> c ≠ it) (h3 : ∀ p ∈ X.pn ++ pins, p.1 ≠ it) : Inv X pins σ H { s with heap := h', toks := t' } := by
 have nit : ∀ b u, H b = some u -> b ≠ it := fun b u e z => by rw [z, hn] at e; cases e
 refine I.step (g' := s.gens) (d' := s.drawn) (ch := [it]) (fun b hb => ?_) (fun b o _ _ hc e _ => k b o (fun z => hc (by simp [z])) e) (fun b o _ _ hc e _ => ⟨o.slots, k b o (fun z => hc (by simp [z])) e⟩) (fun _ _ _ _ n => n)
  (fun b o hc e => ⟨o, k b o (fun z => hc (by simp [z])) e⟩) (fun _ _ e => e) (fun _ _ _ e => e) (fun b ps e => ⟨#[], by rw [e]; simp⟩) (fun m hm => ?_) (fun b u e => ?_) I.bare
 ·have e : b = it := by simpa using hb
  subst e
  exact ⟨h1, hL, h2, h3⟩
 ·obtain ⟨o, es, ep, ho, r⟩ := hm
  exact ⟨o, es, ep, k _ o (Ne.symm hL) ho, r⟩
 ·refine (I.hok b u e).stay (fun c v hc q => k c v ?_ q) (fun _ q => q) fun _ _ q => q
  rcases hc with z | z
  ·rw [z]; exact nit b u e
  ·exact nit c _ z
theorem Inv.tok (I : Inv X pins σ H s) (t : Nat) : Inv X pins σ H { s with toks := t } := I.un (h' := s.heap) (t' := t) Un.refl I.hok
theorem Inv.kept {t' : Nat} (I : Inv X pins σ H s) (k : ∀ b u, s.heap.get? b = some u -> h'.get? b = some u) : Inv X pins σ H { s with heap := h', toks := t' } := I.un (Un.kept k) (I.hok.kept k)
theorem Inv.laid {a : Addr} {o : HO} {t' : Nat} (I : Inv X pins σ H s) (k : ∀ b u, s.heap.get? b = some u -> h'.get? b = some u) (hp : s.heap.objs.size <= a) (new : ObjOk X.prog X.w (upd H a o) h' a o) :
  Inv X pins σ (upd H a o) { s with heap := h', toks := t' } := I.un (Un.laid k hp (I.hok.fresh hp)) (I.hok.laid k hp new)
theorem Inv.write {x e : Addr} {o : HO} {t' : Nat} (I : Inv X pins σ H s) (mu : Mut (H x)) (he : e = x \/ H e = some (.own x)) (k : ∀ b u, b ≠ e -> s.heap.get? b = some u -> h'.get? b = some u) (heo : ∃ u, h'.get? e = some u)
  (new : ObjOk X.prog X.w (upd H x o) h' x o) : Inv X pins σ (upd H x o) { s with heap := h', toks := t' } := I.un (Un.write mu he k heo) (I.hok.write mu he k heo new)
theorem Inv.pins_of {pins' : List (Addr × Obj)} (I : Inv X pins σ H s) (h : ∀ p ∈ pins', s.heap.get? p.1 = some p.2 /\ H p.1 = none /\ p.1 ≠ X.env.locals /\ p.1 ∉ X.fs /\ ∀ v, p.2.data ≠ .cell v) : Inv X pins' σ H s :=
 ⟨I.ok, I.os, I.bare, I.base, I.loc, I.cell, I.free, I.freeC, fun p hp => (List.mem_append.mp hp).elim (fun z => I.pin p (List.mem_append_left _ z)) (h p), I.hok, I.len⟩
theorem nodup_ix {N : List Str} (hN : N.Nodup) {i j : Nat} {x : Str} (a : N[i]? = some x) (b : N[j]? = some x) : i = j := by
 obtain ⟨h1, e1⟩ := List.getElem?_eq_some_iff.mp a
 obtain ⟨h2, e2⟩ := List.getElem?_eq_some_iff.mp b
 exact (List.getElem_inj hN).mp (e1.trans e2.symm)
theorem store_ok2 {M : Model} {A : Around} {E : Value -> Shared -> Prop} {i : Nat} {x : Str} {v : V} {u : Value} {Q : Unit -> Shared -> Prop} (I : Inv X pins σ H s) (hN : X.N.Nodup) (hi : X.N[i]? = some x) (hx : Loc X.env.scope x) (r : RelV v u)
  (h : ∀ s', Inv X pins (σ.set i (some v)) H s' -> (∃ a, Heap.SameBut a s.heap s'.heap /\ (a = X.env.locals \/ X.env.cells.lookup x = some a)) -> Q () s') (hf : X.fn x = true \/ X.env.scope.names.lookup x = some .local := by first | exact .inl rfl | exact .inr rfl | assumption) : wpAny M A (storeName X.env x u) Q E s := by
 obtain ⟨m, hn, hl⟩ := id I.loc
 have hcls : (X.env.scope.kind == .class || (X.env.scope.kind == .module && X.env.locals != X.env.globals)) = false := by rw [I.ok.kind]; rfl
 have hiσ : i < σ.length := by rw [I.len]; exact (List.getElem?_eq_some_iff.mp hi).1
 have cne := I.cne
 have tracked : ∀ {a : Addr} {h' : Heap}, (∃ o, s.heap.get? a = some o /\ H a = none) -> Heap.SameBut a s.heap h' -> HOk X.prog X.w H h' := fun {a h'} ha hs b ob e => by
  obtain ⟨_, _, hfree⟩ := ha
  refine (I.hok b ob e).stay (fun c w' hc q => (hs.2 c ?_).trans q) (fun _ q => q) fun _ _ q => q
  rintro rfl
  rcases hc with rfl | hc
  ·rw [hfree] at e; cases e
  ·rw [hfree] at hc; cases hc
 rcases hx with hk | hk
 ·refine wpAny_storeName_local hk hn (fun h' hn' hs => ?_) hcls
  obtain ⟨oL, _, _, hoL, _⟩ := id hn
  refine h _ ⟨I.ok, I.os, I.bare, ⟨fun b o e n hb hx => ?_, fun b o e n hb hx => ?_, I.base.free, fun b o e hx => ?_, I.base.tups, I.base.frzs, I.base.tbls⟩, ⟨_, hn', fun j y v' e1 e2 e3 => ?_⟩, fun y c e => ?_, I.free, I.freeC, fun p hp => ?_, tracked ⟨oL, hoL, I.free⟩ hs, by simpa using I.len⟩ ⟨_, hs, .inl rfl⟩
  ·exact (hs.2 b (Nat.ne_of_lt (Nat.lt_of_lt_of_le (Heap.lt_size e) I.ok.above))).trans (I.base.keep b o e n hb hx)
  ·obtain ⟨sl, e1⟩ := I.base.slot b o e n hb hx
   exact ⟨sl, (hs.2 b (Nat.ne_of_lt (Nat.lt_of_lt_of_le (Heap.lt_size e) I.ok.above))).trans e1⟩
  ·obtain ⟨o', e1⟩ := I.base.there b o e hx
   exact ⟨o', (hs.2 b (Nat.ne_of_lt (Nat.lt_of_lt_of_le (Heap.lt_size e) I.ok.above))).trans e1⟩
  ·by_cases hj : j = i
   ·subst hj
    rw [hi] at e1; cases e1
    rw [List.getElem?_set_self hiσ] at e2
    cases e2
    exact ⟨u, r, .inl ⟨hk, by simp⟩⟩
   ·rw [List.getElem?_set_ne (Ne.symm hj)] at e2
    obtain ⟨u', r', q⟩ := hl j y v' e1 e2 e3
    refine ⟨u', r', ?_⟩
    rcases q with ⟨k, e⟩ | ⟨k, c, e, z⟩
    ·refine .inl ⟨k, ?_⟩
     have : y ≠ x := fun e => hj (nodup_ix hN e1 (e ▸ hi))
     simp [this, e]
    ·exact .inr ⟨k, c, e, z.sameBut hs (cne y c e)⟩
  ·obtain ⟨w', z⟩ := I.cell y c e
   exact ⟨w', z.sameBut hs (cne y c e)⟩
  ·obtain ⟨e, n, ne, nf, d⟩ := I.pin p hp
   exact ⟨(hs.2 p.1 ne).trans e, n, ne, nf, d⟩
 ·have hfn : X.fn x = true := by
   rcases hf with z | z
   ·exact z
   ·rw [z] at hk; cases hk
  obtain ⟨c, hc⟩ := I.ok.has x (.inl hk)
  obtain ⟨w', z⟩ := I.cell x c hc
  refine wpAny_storeName_cell I.ok.kind hk hc z (fun h' hc' hs => ?_)
  obtain ⟨oc, hoc, hocd⟩ := id z
  refine h { s with heap := h' } ⟨I.ok, I.os, I.bare, ⟨fun b o e n hb hx => ?_, fun b o e n hb hx => ?_, I.base.free, fun b o e hx => ?_, I.base.tups, I.base.frzs, I.base.tbls⟩, ⟨m, hn.sameBut hs (Ne.symm (cne x c hc)), fun j y v' e1 e2 e3 => ?_⟩, fun y c' e => ?_, I.free, I.freeC, fun p hp => ?_, tracked ⟨oc, hoc, I.freeC x c hc⟩ hs, by simpa using I.len⟩ ⟨c, hs, .inr hc⟩
  ·exact (hs.2 b (Nat.ne_of_lt (Nat.lt_of_lt_of_le (Heap.lt_size e) (I.ok.cab x c hfn hc)))).trans (I.base.keep b o e n hb hx)
  ·obtain ⟨sl, e1⟩ := I.base.slot b o e n hb hx
   exact ⟨sl, (hs.2 b (Nat.ne_of_lt (Nat.lt_of_lt_of_le (Heap.lt_size e) (I.ok.cab x c hfn hc)))).trans e1⟩
  ·obtain ⟨o', e1⟩ := I.base.there b o e hx
   exact ⟨o', (hs.2 b (Nat.ne_of_lt (Nat.lt_of_lt_of_le (Heap.lt_size e) (I.ok.cab x c hfn hc)))).trans e1⟩
  ·by_cases hj : j = i
   ·subst hj
    rw [hi] at e1; cases e1
    rw [List.getElem?_set_self hiσ] at e2
    cases e2
    exact ⟨u, r, .inr ⟨.inl hk, c, hc, hc'⟩⟩
   ·rw [List.getElem?_set_ne (Ne.symm hj)] at e2
    obtain ⟨u', r', q⟩ := hl j y v' e1 e2 e3
    refine ⟨u', r', ?_⟩
    rcases q with q | ⟨k, c', e, z'⟩
    ·exact .inl q
    ·refine .inr ⟨k, c', e, z'.sameBut hs ?_⟩
     rintro rfl
     exact hj (nodup_ix hN e1 (I.ok.inj _ _ _ e hc ▸ hi))
  ·by_cases hcc : c' = c
   ·subst hcc; exact ⟨_, hc'⟩
   ·obtain ⟨w2, z2⟩ := I.cell y c' e
    exact ⟨w2, z2.sameBut hs hcc⟩
  ·obtain ⟨e, n, ne, nf, d⟩ := I.pin p hp
   refine ⟨(hs.2 p.1 ?_).trans e, n, ne, nf, d⟩
   intro q
   rw [q, hoc] at e
   have q' : oc = p.2 := Option.some.inj e
   exact d w' (by rw [<- q']; exact hocd)
theorem store_ok {M : Model} {A : Around} {E : Value -> Shared -> Prop} {i : Nat} {x : Str} {v : V} {u : Value} {Q : Unit -> Shared -> Prop} (I : Inv X pins σ H s) (hN : X.N.Nodup) (hi : X.N[i]? = some x) (hx : Loc X.env.scope x) (r : RelV v u)
  (h : ∀ s', Inv X pins (σ.set i (some v)) H s' -> Q () s') (hf : X.fn x = true \/ X.env.scope.names.lookup x = some .local := by first | exact .inl rfl | exact .inr rfl | assumption) : wpAny M A (storeName X.env x u) Q E s :=
 store_ok2 I hN hi hx r (fun s' I' _ => h s' I') hf
theorem Inv.call' {s' : Shared} {ch : List Addr} (I : Inv X pins σ H s) (ho : s'.os = s.os) (u : Un (frs X.stack) ch H H' s.heap s'.heap) (hok : HOk X.prog X.w H' s'.heap) (hg : AllBare s'.gens)
  (hch : ∀ b ∈ ch, (b ∈ X.ex \/ X.s₀.heap.objs.size <= b) /\ b ≠ X.env.locals /\ (∀ x c, X.env.cells.lookup x = some c -> c ≠ b) /\ ∀ p ∈ X.pn ++ pins, p.1 ≠ b) : Inv X pins σ H' s' := by
 obtain ⟨h', g', d', t', o'⟩ := s'
 have e : o' = s.os := ho
 subst e
 exact I.call (g' := g') (t' := t') (d' := d') u hok hg hch
end
noncomputable abbrev XK := Value -> Option Addr -> Hp -> Prop
noncomputable abbrev St := List (Option V)
noncomputable abbrev VK := V -> Hp -> Prop
noncomputable abbrev TE := St -> Hp -> VK -> Prop
noncomputable abbrev TT := St -> Hp -> (Bool -> Hp -> Prop) -> Prop
noncomputable abbrev TA := St -> Hp -> (List V -> Hp -> Prop) -> Prop
structure Ends where
 nx : St -> Hp -> Prop
 rt : VK
 bk : St -> Hp -> Prop := fun _ _ => False
 ct : St -> Hp -> Prop := fun _ _ => False
noncomputable abbrev TS := Ends -> St -> Hp -> Prop
noncomputable def EP (X : Cx) (pins : List (Addr × Obj)) (σ : St) (Q : VK) (u : Value) (s' : Shared) : Prop := ∃ v H', Inv X pins σ H' s' /\ RelV v u /\ Q v H'
noncomputable def TP (X : Cx) (pins : List (Addr × Obj)) (σ : St) (Q : Bool -> Hp -> Prop) (b : Bool) (s' : Shared) : Prop := ∃ H', Inv X pins σ H' s' /\ Q b H'
noncomputable def AP (X : Cx) (pins : List (Addr × Obj)) (σ : St) (Q : List V -> Hp -> Prop) (us : List Value) (s' : Shared) : Prop := ∃ vs H', Inv X pins σ H' s' /\ Vals vs us /\ Q vs H'
noncomputable def SP (X : Cx) (pins : List (Addr × Obj)) (D : Ends) (f : Flow) (s' : Shared) : Prop :=
 match f with
 | .next => ∃ σ' H', Inv X pins σ' H' s' /\ D.nx σ' H'
 | .brk => ∃ σ' H', Inv X pins σ' H' s' /\ D.bk σ' H'
 | .cont => ∃ σ' H', Inv X pins σ' H' s' /\ D.ct σ' H'
 | .ret u => ∃ v σ' H', Inv X pins σ' H' s' /\ RelV v u /\ D.rt v H'
noncomputable def PE (X : Cx) (e : Expr) (t : TE) : Prop :=
 ∀ (pins : List (Addr × Obj)) (s : Shared) (σ : St) (H : Hp) (Q : VK), Inv X pins σ H s -> t σ H Q -> wpAny (model X.prog X.w) X.A (eval e X.env) (EP X pins σ Q) X.xe s
noncomputable def PT (X : Cx) (e : Expr) (t : TT) : Prop :=
 ∀ (pins : List (Addr × Obj)) (s : Shared) (σ : St) (H : Hp) (Q : Bool -> Hp -> Prop), Inv X pins σ H s -> t σ H Q -> wpAny (model X.prog X.w) X.A (isTrue e X.env (eval e X.env)) (TP X pins σ Q) X.xe s
noncomputable def PW (X : Cx) (e : Expr) (t : TT) : Prop :=
 ∀ (whole : Sem Value) (pins : List (Addr × Obj)) (s : Shared) (σ : St) (H : Hp) (Q : Bool -> Hp -> Prop), Inv X pins σ H s -> t σ H Q -> wpAny (model X.prog X.w) X.A (isTrue e X.env whole) (TP X pins σ Q) X.xe s
theorem PW.pt {X : Cx} {e : Expr} {t : TT} (h : PW X e t) : PT X e t := h _
noncomputable def PA (X : Cx) (es : List Expr) (t : TA) : Prop :=
 ∀ (pos : Pos) (pins : List (Addr × Obj)) (s : Shared) (σ : St) (H : Hp) (Q : List V -> Hp -> Prop), Inv X pins σ H s -> t σ H Q -> wpAny (model X.prog X.w) X.A (spliced (backTo pos (starEach es X.env))) (AP X pins σ Q) X.xe s
noncomputable def PS (X : Cx) (st : Stmt) (t : TS) : Prop :=
 ∀ (pins : List (Addr × Obj)) (s : Shared) (σ : St) (H : Hp) (D : Ends), Inv X pins σ H s -> t D σ H -> wpAny (model X.prog X.w) X.A (exec st X.env) (SP X pins D) X.xe s
noncomputable def PSs (X : Cx) (st : List Stmt) (t : TS) : Prop :=
 ∀ (pins : List (Addr × Obj)) (s : Shared) (σ : St) (H : Hp) (D : Ends), Inv X pins σ H s -> t D σ H -> wpAny (model X.prog X.w) X.A (execs st X.env) (SP X pins D) X.xe s
theorem thn {α : Type} {t : Sem α} {Q Q' : α -> Shared -> Prop} {M : Model} {A : Around} {E : Value -> Shared -> Prop} {s : Shared} (h : wpAny M A t Q E s) (hQ : ∀ a s, Q a s -> Q' a s) : wpAny M A t Q' E s := wpAny_mono h hQ fun _ _ x => x
end L2
namespace L2
open PySem PySem.Spec PyProof.Rows
section
variable {X : Cx}
inductive TVarI (i : Nat) (σ : St) (H : Hp) (Q : VK) : Prop where
 | mk (v : V) (_ : σ[i]? = some (some v)) (_ : Q v H) : TVarI i σ H Q
noncomputable def tVar (i : Nat) : TE := fun σ H Q => TVarI i σ H Q
noncomputable def tC (v : V) : TE := fun _ H Q => Q v H
theorem pe_var {i : Nat} {x : Str} {pos : Pos} (hN : X.N[i]? = some x) (hv : Vis X.env.scope x) (hd : (x == ("__debug__" : Str)) = false := by decide) (hcd : (x == ("__classdict__" : Str)) = false := by decide) : PE X (.Name x pos) (tVar i) := by
 intro pins s σ H Q I h
 obtain ⟨v, e, h⟩ := h
 obtain ⟨m, hn, hl⟩ := I.loc
 obtain ⟨u, r, l⟩ := hl i x v hN e hv
 have fin : EP X pins σ Q u s := ⟨v, H, I, r, h⟩
 rcases l with ⟨hk, hm⟩ | ⟨hk, c, hc, hcell⟩
 ·exact wpAny_Name (wpAny_loadName_local I.ok.kind hk hn hm fin) hd
 ·rcases hk with hk | hk
  ·exact wpAny_Name (wpAny_loadName_cell I.ok.kind hk hc hcell fin) hd
  ·exact wpAny_Name (wpAny_loadName_free I.ok.kind hk hc hcell fin hcd) hd
theorem pe_int {i j pos} : PE X (.Constant (.int i) j pos) (tC (.int i)) := fun _ _ _ H _ I h => wpAny_Constant_int ⟨.int i, H, I.tok _, ⟨_, rfl⟩, h⟩
theorem pe_bl {b j pos} : PE X (.Constant (.bool b) j pos) (tC (.bl b)) := fun _ _ _ H _ I h => Constant_bool ⟨.bl b, H, I, rfl, h⟩
theorem pe_non {j pos} : PE X (.Constant .none j pos) (tC .non) := fun _ _ _ H _ I h => Constant_none ⟨.non, H, I, rfl, h⟩
theorem pe_str {x j pos} : PE X (.Constant (.str x) j pos) (tC (.str x)) := fun _ _ _ H _ I h => Calls.Constant_str ⟨.str x, H, I.tok _, ⟨_, rfl⟩, h⟩
noncomputable def Gl (X : Cx) (x : Str) : Prop := X.env.kindOf x = some .globalImplicit
theorem ld_glob {E : Value -> Shared -> Prop} {pins : List (Addr × Obj)} {s : Shared} {σ : St} {H : Hp} {x : Str} {u : Value} {pos : Pos} {Q : Value -> Shared -> Prop} (I : Inv X pins σ H s) (hg : Gl X x) (hm : X.mg x = some u) (h : Q u s)
  (hd : (x == ("__debug__" : Str)) = false := by decide) : wpAny (model X.prog X.w) X.A (eval (.Name x pos) X.env) Q E s :=
 Calls.Name_function_global I.ok.kind hg (Calls.loadGlobal_global (by rw [I.ok.glob]; exact I.mod.glob.keeps I.bk) hm h) hd
theorem ld_blt {E : Value -> Shared -> Prop} {pins : List (Addr × Obj)} {s : Shared} {σ : St} {H : Hp} {x : Str} {u : Value} {pos : Pos} {Q : Value -> Shared -> Prop} (I : Inv X pins σ H s) (hg : Gl X x) (hm : X.mg x = none) (hv : bootBuiltins x = some u) (h : Q u s)
  (hn : x ≠ "__name__" := by decide) (hd : (x == ("__debug__" : Str)) = false := by decide) : wpAny (model X.prog X.w) X.A (eval (.Name x pos) X.env) Q E s := by
 obtain ⟨mb, h1, h2⟩ := I.mod.blt
 exact Calls.Name_function_global I.ok.kind hg (Calls.loadGlobal_builtin (by rw [I.ok.glob]; exact I.mod.glob.keeps I.bk) hm (by rw [I.ok.blt]; exact h1.keeps I.bk) ((h2 x hn).trans hv) h) hd
theorem pe_glob {x : Str} {v : V} {u : Value} {pos : Pos} (hg : Gl X x) (hm : X.mg x = some u) (r : RelV v u) (hd : (x == ("__debug__" : Str)) = false := by decide) : PE X (.Name x pos) (tC v) :=
 fun _ _ _ H _ I h => ld_glob I hg hm ⟨v, H, I, r, h⟩ hd
theorem pe_bltn {x : Str} {v : V} {u : Value} {pos : Pos} (hg : Gl X x) (hm : X.mg x = none) (hv : bootBuiltins x = some u) (r : RelV v u) (hn : x ≠ "__name__" := by decide) (hd : (x == ("__debug__" : Str)) = false := by decide) : PE X (.Name x pos) (tC v) :=
 fun _ _ _ H _ I h => ld_blt I hg hm hv ⟨v, H, I, r, h⟩ hn hd
variable {a b : Expr} {ta tb : TE} {pos : Pos}
noncomputable def PC (X : Cx) (op : CmpOp) (a b : Expr) (t : TE) : Prop :=
 ∀ (pins : List (Addr × Obj)) (s : Shared) (σ : St) (H : Hp) (Q : VK), Inv X pins σ H s -> t σ H Q ->
  wpAny (model X.prog X.w) X.A (eval a X.env) (fun v s₁ => wpAny (model X.prog X.w) X.A (eval b X.env) (fun u s₂ => wpAny (model X.prog X.w) X.A (compareOp op v u) (EP X pins σ Q) X.xe s₂) X.xe s₁) X.xe s
theorem nobehind (b : Expr) {op : CmpOp} (h : op ≠ .In) (h2 : op ≠ .NotIn) : behindInMarks op b = false := by
 have e1 : (op == CmpOp.In) = false := by cases op <;> first | rfl | exact absurd rfl h
 have e2 : (op == CmpOp.NotIn) = false := by cases op <;> first | rfl | exact absurd rfl h2
 cases b <;> simp [behindInMarks, e1, e2]
noncomputable def tNotN (ta : TE) : TE := fun σ H Q => ta σ H fun x H1 => Q (.bl (!decide (x = .non))) H1
theorem RelV.none_iff {x : V} {v : Value} (r : RelV x v) : (v == Value.none) = decide (x = .non) := by
 cases x with
 | non => cases r; rfl
 | bl _ => cases r; rfl
 | int _ => obtain ⟨t, rfl⟩ := r; rfl
 | str _ => obtain ⟨t, rfl⟩ := r; rfl
 | byt _ => obtain ⟨t, rfl⟩ := r; rfl
 | flt _ => obtain ⟨t, rfl⟩ := r; rfl
 | ref _ => cases r; rfl
 | ty _ => cases r; rfl
theorem pc_notN {j pos'} (ha : PE X a ta) : PC X .IsNot a (.Constant .none j pos') (tNotN ta) := by
 intro pins s σ H Q I h
 refine thn (ha pins s σ H _ I h) fun v s1 zz0 => ?_
 obtain ⟨x, H1, I1, r1, q1⟩ := zz0
 exact Constant_none (isnot_none_gen ⟨.bl _, H1, I1, by rw [r1.none_iff]; rfl, q1⟩)
inductive IsBI (x : V) (Q : Bool -> Hp -> Prop) (H : Hp) : Prop where
 | mk (c : Bool) (_ : x = .bl c) (_ : Q c H) : IsBI x Q H
noncomputable def tB (t : TE) : TT := fun σ H Q => t σ H fun x H1 => IsBI x Q H1
theorem pt_cmp {op : CmpOp} {t : TE} (h : PC X op a b t) (h1 : behindInMarks op b = false := by first | exact nobehind _ (by decide) (by decide) | rfl) : PT X (.Compare a [op] [b] pos) (tB t) := by
 intro pins s σ H Q I hw
 refine wpAny_isTrue_Compare1 (thn (h pins s σ H _ I hw) fun v s1 h1 => thn h1 fun u s2 h2 => thn h2 fun c s3 zz0 => ?_) h1
 obtain ⟨x, H1, I1, r1, q1⟩ := zz0
 obtain ⟨d, rfl, q⟩ := q1
 cases r1
 exact wpAny_truthy_bool ⟨H1, I1, q⟩
theorem pt_val {e : Expr} {t : TE} (h : PE X e t) (he : ∀ whole, isTrue e X.env whole = (do let v <- whole; standAt e.pos; holding [v] (truthy v)) := by intro _; rfl) : PT X e (tB t) := by
 intro pins s σ H Q I hw
 refine isTrue_plain (thn (h pins s σ H _ I hw) fun v s1 zz0 => ?_) (he _)
 obtain ⟨x, H1, I1, r1, q1⟩ := zz0
 obtain ⟨d, rfl, q⟩ := q1
 cases r1
 exact wpAny_truthy_bool ⟨H1, I1, q⟩
variable {tA tB' : TT} {rest : List Expr}
noncomputable def tAnd (t u : TT) : TT := fun σ H Q => t σ H fun c H1 => if c = true then u σ H1 Q else Q false H1
noncomputable def tOr (t u : TT) : TT := fun σ H Q => t σ H fun c H1 => if c = true then Q true H1 else u σ H1 Q
noncomputable def tNot (t : TT) : TT := fun σ H Q => t σ H fun c H1 => Q (!c) H1
theorem pw_and1 (ha : PT X a tA) : PW X (.BoolOp .And [a] pos) tA := by
 intro wh pins s σ H Q I h
 refine isTrue_and (thn (ha pins s σ H Q I h) fun c s1 e => ?_)
 cases c with
 | true => exact isTrue_and_nil e
 | false => exact e
theorem pw_or1 (ha : PT X a tA) : PW X (.BoolOp .Or [a] pos) tA := by
 intro wh pins s σ H Q I h
 refine isTrue_or (thn (ha pins s σ H Q I h) fun c s1 e => ?_)
 cases c with
 | false => exact isTrue_or_nil e
 | true => exact e
theorem pw_and (ha : PT X a tA) (hb : PW X (.BoolOp .And (b :: rest) pos) tB') : PW X (.BoolOp .And (a :: b :: rest) pos) (tAnd tA tB') := by
 intro wh pins s σ H Q I h
 refine isTrue_and (thn (ha pins s σ H _ I h) fun c s1 zz0 => ?_)
 obtain ⟨H1, I1, q1⟩ := zz0
 cases c with
 | true => exact hb wh pins s1 σ H1 Q I1 q1
 | false => exact ⟨H1, I1, q1⟩
theorem pw_or (ha : PT X a tA) (hb : PW X (.BoolOp .Or (b :: rest) pos) tB') : PW X (.BoolOp .Or (a :: b :: rest) pos) (tOr tA tB') := by
 intro wh pins s σ H Q I h
 refine isTrue_or (thn (ha pins s σ H _ I h) fun c s1 zz0 => ?_)
 obtain ⟨H1, I1, q1⟩ := zz0
 cases c with
 | true => exact ⟨H1, I1, q1⟩
 | false => exact hb wh pins s1 σ H1 Q I1 q1
theorem pt_not (ha : PT X a tA) : PT X (.UnaryOp .Not a pos) (tNot tA) := by
 intro pins s σ H Q I h
 exact isTrue_not (ha pins s σ H (fun c H1 => Q (!c) H1) I h)
noncomputable def tAndV (ta tb : TE) : TE := fun σ H Q => ta σ H fun x H1 => ∃ c, x = .bl c /\ if c = true then tb σ H1 Q else Q (.bl false) H1
noncomputable def tNotV (ta : TE) : TE := fun σ H Q => ta σ H fun x H1 => ∃ c, x = .bl c /\ Q (.bl (!c)) H1
theorem pe_one {op} {t : TE} (h : PE X a t) : PE X (.BoolOp op [a] pos) t := fun pins s σ H Q I hw => BoolOp_one (h pins s σ H Q I hw)
theorem pe_and (ha : PE X a ta) (hb : PE X (.BoolOp .And (b :: rest) pos) tb) : PE X (.BoolOp .And (a :: b :: rest) pos) (tAndV ta tb) := by
 intro pins s σ H Q I h
 refine BoolOp_and (thn (ha pins s σ H _ I h) fun v s1 zz0 => ?_)
 obtain ⟨x, H1, I1, r1, q1⟩ := zz0
 obtain ⟨c, rfl, q1⟩ := q1
 cases r1
 refine wpAny_truthy_bool ?_
 cases c with
 | true => exact hb pins s1 σ H1 Q I1 q1
 | false => exact ⟨.bl false, H1, I1, rfl, q1⟩
theorem pe_not (ha : PE X a ta) : PE X (.UnaryOp .Not a pos) (tNotV ta) := by
 intro pins s σ H Q I h
 refine UnaryOp_ (thn (ha pins s σ H _ I h) fun v s1 zz0 => ?_)
 obtain ⟨x, H1, I1, r1, q1⟩ := zz0
 obtain ⟨c, rfl, q1⟩ := q1
 cases r1
 exact not_of (wpAny_truthy_bool ⟨.bl (!c), H1, I1, rfl, q1⟩)
end
end L2
namespace L2
open PySem PySem.Spec PyProof.Rows
noncomputable def SqL (K : PySem.W.Frag) (H : Hp) (a : Addr) (xs : List V) : Prop :=
 Rd H a (.lst xs) \/
  ∃ (o : Obj) (its : Array Value) (n : Nat), K.lookup a = some o /\ o.cls = .type "list" /\ o.dict = none /\ o.data = .seq its n /\ its.size <= sizeLine /\ Vals xs its.toList
noncomputable def SqT (K : PySem.W.Frag) (H : Hp) (a : Addr) (xs : List V) : Prop :=
 Rd H a (.tup xs) \/
  ∃ (o : Obj) (its : Array Value) (n : Nat), K.lookup a = some o /\ o.cls = .type "tuple" /\ o.data = .seq its n /\ its.size <= sizeLine /\ Vals xs its.toList
noncomputable def absV : Value -> Option V
 | .none => some .non
 | .bool b => some (.bl b)
 | .int i _ => some (.int i)
 | .str x _ => some (.str x)
 | .bytes b _ => some (.byt b)
 | .float b _ => some (.flt b)
 | .ref a => some (.ref a)
 | .type n => some (.ty n)
 | _ => none
theorem RelV.abs {x : V} {u : Value} (r : RelV x u) : absV u = some x := by
 cases x with
 | non => cases r; rfl
 | bl _ => cases r; rfl
 | int _ => obtain ⟨t, rfl⟩ := r; rfl
 | str _ => obtain ⟨t, rfl⟩ := r; rfl
 | byt _ => obtain ⟨t, rfl⟩ := r; rfl
 | flt _ => obtain ⟨t, rfl⟩ := r; rfl
 | ref _ => cases r; rfl
 | ty _ => cases r; rfl
theorem RelV.inj {x y : V} {u : Value} (r : RelV x u) (q : RelV y u) : x = y := Option.some.inj (r.abs.symm.trans q.abs)
theorem Vals.inj : ∀ {xs ys : List V} {us : List Value}, Vals xs us -> Vals ys us -> xs = ys
 | _, _, _, .nil, .nil => rfl
 | _, _, _, .cons r t, .cons r' t' => by rw [r.inj r', Vals.inj t t']
section
variable {X : Cx} {pins : List (Addr × Obj)} {σ : St} {H : Hp} {s : Shared} {a : Addr} {xs ys : List V}
theorem SqL.of {K : PySem.W.Frag} (h : H a = some (.lst xs)) : SqL K H a xs := .inl (.inl h)
theorem SqT.of {K : PySem.W.Frag} (h : H a = some (.tup xs)) : SqT K H a xs := .inl (.inl h)
theorem Inv.list (I : Inv X pins σ H s) (h : SqL X.K H a xs) : ∃ its : List Value, Vals xs its /\ PlainL s.heap a its.toArray /\ xs.length <= sizeLine := by
 rcases h with h | ⟨o, its, n, hk, hc, hd, hs, hz, r⟩
 ·obtain ⟨z, its, n, r, e⟩ := h.ok I.hok
  exact ⟨its, r, ⟨_, n, e, rfl, rfl, rfl⟩, z⟩
 ·refine ⟨its.toList, r, ⟨o, n, I.kIn a o hk, hc, hd, by simpa using hs⟩, ?_⟩
  have e := r.length
  simp only [Array.length_toList] at e
  exact Om.b4 ‹_› ‹_› rfl
theorem Inv.tuple (I : Inv X pins σ H s) (h : SqT X.K H a xs) : ∃ its : List Value, Vals xs its /\ IsTup s.heap a its.toArray /\ xs.length <= sizeLine := by
 rcases h with h | ⟨o, its, n, hk, hc, hs, hz, r⟩
 ·obtain ⟨z, its, r, p⟩ := h.ok I.hok
  exact ⟨its, r, p.is, z⟩
 ·refine ⟨its.toList, r, ⟨o, I.kIn a o hk, hc, n, by simpa using hs⟩, ?_⟩
  have e := r.length
  simp only [Array.length_toList] at e
  exact Om.b4 ‹_› ‹_› rfl
theorem Inv.list_inj (I : Inv X pins σ H s) (h : SqL X.K H a xs) (h' : SqL X.K H a ys) : xs = ys := by
 obtain ⟨its, r, ⟨o, n, e, _, _, d⟩, _⟩ := I.list h
 obtain ⟨its', r', ⟨o', n', e', _, _, d'⟩, _⟩ := I.list h'
 rw [e] at e'; cases e'
 rw [d] at d'
 injection d' with d1 _
 have : its = its' := by simpa using congrArg Array.toList d1
 subst this
 exact r.inj r'
theorem Inv.tuple_inj (I : Inv X pins σ H s) (h : SqT X.K H a xs) (h' : SqT X.K H a ys) : xs = ys := by
 obtain ⟨its, r, ⟨o, e, _, n, d⟩, _⟩ := I.tuple h
 obtain ⟨its', r', ⟨o', e', _, n', d'⟩, _⟩ := I.tuple h'
 rw [e] at e'; cases e'
 rw [d] at d'
 injection d' with d1 _
 have : its = its' := by simpa using congrArg Array.toList d1
 subst this
 exact r.inj r'
end
noncomputable abbrev Cx.wish (X : Cx) (E : Value -> Shared -> Prop) : Cx := { X with xe := E }
noncomputable abbrev Cx.nox (X : Cx) : Cx := X.wish fun _ _ => False
theorem Cx.Ok.wish {X : Cx} (ok : X.Ok) (E : Value -> Shared -> Prop) : (X.wish E).Ok :=
 ⟨ok.mod, ok.kind, ok.glob, ok.blt, ok.above, ok.inj, ok.has, ok.cab, ok.hd, ok.frames, ok.stk, ok.exf, ok.bs, ok.bsz, ok.noex, ok.exfs, ok.funs, ok.frf⟩
theorem Cx.Ok.unwish {X : Cx} {E : Value -> Shared -> Prop} (ok : (X.wish E).Ok) : X.Ok :=
 ⟨ok.mod, ok.kind, ok.glob, ok.blt, ok.above, ok.inj, ok.has, ok.cab, ok.hd, ok.frames, ok.stk, ok.exf, ok.bs, ok.bsz, ok.noex, ok.exfs, ok.funs, ok.frf⟩
section
variable {X : Cx} {pins : List (Addr × Obj)} {σ : St} {H : Hp} {s : Shared} {E : Value -> Shared -> Prop}
theorem Inv.wish (I : Inv X pins σ H s) (E : Value -> Shared -> Prop) : Inv (X.wish E) pins σ H s := ⟨I.ok.wish E, I.os, I.bare, I.base, I.loc, I.cell, I.free, I.freeC, I.pin, I.hok, I.len⟩
theorem Inv.unwish (I : Inv (X.wish E) pins σ H s) : Inv X pins σ H s := ⟨I.ok.unwish, I.os, I.bare, I.base, I.loc, I.cell, I.free, I.freeC, I.pin, I.hok, I.len⟩
theorem SP.unwish {D : Ends} {f : Flow} {s' : Shared} (h : SP (X.wish E) pins D f s') : SP X pins D f s' := by
 cases f with
 | next => obtain ⟨σ', H', I, q⟩ := h; exact ⟨σ', H', I.unwish, q⟩
 | brk => obtain ⟨σ', H', I, q⟩ := h; exact ⟨σ', H', I.unwish, q⟩
 | cont => obtain ⟨σ', H', I, q⟩ := h; exact ⟨σ', H', I.unwish, q⟩
 | ret u => obtain ⟨v, σ', H', I, r, q⟩ := h; exact ⟨v, σ', H', I.unwish, r, q⟩
theorem PSs.nox {st : List Stmt} {t : TS} (h : PSs X.nox st t) : PSs X st t := fun pins s σ H D I hw =>
 wpAny_mono (h pins s σ H D (I.wish _) hw) (fun _ _ q => q.unwish) fun _ _ z => False.elim z
end
section
variable {X : Cx} {st : Stmt} {rest : List Stmt} {t u : TS} {e : Expr} {te : TE} {pos : Pos}
noncomputable def tNext : TS := fun D σ H => D.nx σ H
noncomputable def tSeq (t u : TS) : TS := fun D σ H => t { D with nx := u D } σ H
theorem pss_nil : PSs X [] tNext := fun _ _ σ H _ I h => wpAny_execs_nil ⟨σ, H, I, h⟩
theorem pss_cons (h1 : PS X st t) (h2 : PSs X rest u) : PSs X (st :: rest) (tSeq t u) := by
 intro pins s σ H D I h
 refine wpAny_execs_cons (thn (h1 pins s σ H { D with nx := u D } I h) fun f s1 q => ?_)
 cases f with
 | next =>
  obtain ⟨σ', H', I', q⟩ := q
  exact h2 pins s1 σ' H' D I' q
 | ret v => exact q
 | brk => exact q
 | cont => exact q
theorem pss_one (h1 : PS X st t) : PSs X [st] t := by
 intro pins s σ H D I h
 refine wpAny_execs_cons (thn (h1 pins s σ H D I h) fun f s1 q => ?_)
 cases f with
 | next => exact wpAny_execs_nil q
 | ret v => exact q
 | brk => exact q
 | cont => exact q
theorem Inv.quiet {pins : List (Addr × Obj)} {σ : St} {H : Hp} {s : Shared} (I : Inv X pins σ H s) : interactive X.env = false := by simp [interactive, I.ok.kind]
noncomputable def tDrop (te : TE) : TS := fun D σ H => te σ H fun _ H1 => D.nx σ H1
theorem ps_expr (he : PE X e te) (hs : swapsWith e none pos.line X.env = pure false := by rfl) : PS X (.Expr e pos) (tDrop te) := by
 intro pins s σ H D I h
 exact wpAny_Expr_any (thn (he pins s σ H _ I h) fun v s1 zz0 => by obtain ⟨x, H1, I1, r1, q1⟩ := zz0; exact ⟨σ, H1, I1, q1⟩) I.quiet hs
noncomputable def tRet (te : TE) : TS := fun D σ H => te σ H D.rt
theorem ps_ret (he : PE X e te) : PS X (.Return (some e) pos) (tRet te) := by
 intro pins s σ H D I h
 exact wpAny_Return_some (thn (he pins s σ H _ I h) fun v s1 zz0 => by obtain ⟨x, H1, I1, r1, q1⟩ := zz0; exact ⟨x, σ, H1, I1, r1, q1⟩)
noncomputable def tIfS (c : TT) (t u : TS) : TS := fun D σ H => c σ H fun b H1 => if b = true then t D σ H1 else u D σ H1
theorem ps_if {c : Expr} {a b : List Stmt} {tc : TT} (hc : PT X c tc) (ha : PSs X a t) (hb : PSs X b u) : PS X (.If c a b pos) (tIfS tc t u) := by
 intro pins s σ H D I h
 refine wpAny_If (thn (hc pins s σ H _ I h) fun d s1 zz0 => ?_)
 obtain ⟨H1, I1, q1⟩ := zz0
 cases d with
 | true => exact ha pins s1 σ H1 D I1 q1
 | false => exact hb pins s1 σ H1 D I1 q1
end
noncomputable abbrev TG := V -> St -> Hp -> (St -> Hp -> Prop) -> Prop
noncomputable abbrev TGs := List V -> St -> Hp -> (St -> Hp -> Prop) -> Prop
noncomputable def PG (X : Cx) (target : Expr) (t : TG) : Prop :=
 ∀ (pins : List (Addr × Obj)) (s : Shared) (σ : St) (H : Hp) (v : V) (u : Value) (Q : St -> Hp -> Prop), Inv X pins σ H s -> RelV v u -> t v σ H Q ->
  wpAny (model X.prog X.w) X.A (assign target X.env u) (fun _ s' => ∃ σ' H', Inv X pins σ' H' s' /\ Q σ' H') X.xe s
noncomputable def PGs (X : Cx) (ts : List Expr) (t : TGs) : Prop :=
 ∀ (pins : List (Addr × Obj)) (s : Shared) (σ : St) (H : Hp) (vs : List V) (us : List Value) (Q : St -> Hp -> Prop), Inv X pins σ H s -> Vals vs us -> t vs σ H Q ->
  wpAny (model X.prog X.w) X.A (assignInOrder ((assignEach ts X.env).map (·.2)) us) (fun _ s' => ∃ σ' H', Inv X pins σ' H' s' /\ Q σ' H') X.xe s
section
variable {X : Cx} {pos : Pos}
noncomputable def gName (i : Nat) : TG := fun v σ H Q => Q (σ.set i (some v)) H
theorem pg_name {i : Nat} {x : Str} (hN : X.N.Nodup) (hi : X.N[i]? = some x) (hx : Loc X.env.scope x) (hf : X.fn x = true \/ X.env.scope.names.lookup x = some .local := by first | exact .inl rfl | exact .inr rfl | assumption) : PG X (.Name x pos) (gName i) := by
 intro pins s σ H v u Q I r h
 exact wpAny_assign_Name (store_ok I hN hi hx r (fun s' I' => ⟨_, H, I', h⟩) hf)
noncomputable def gNil : TGs := fun vs σ H Q => vs = [] /\ Q σ H
noncomputable def gCons (t : TG) (u : TGs) : TGs := fun vs σ H Q => ∃ v r, vs = v :: r /\ t v σ H fun σ' H' => u r σ' H' Q
theorem pgs_nil : PGs X [] gNil := by
 intro pins s σ H vs us Q I r h
 obtain ⟨e, h⟩ := h
 subst e
 cases r
 exact assignInOrder_nil ⟨σ, H, I, h⟩
theorem pgs_cons {e : Expr} {es : List Expr} {t : TG} {u : TGs} (h1 : PG X e t) (h2 : PGs X es u)
  (hs : (assignEach (e :: es) X.env).map (·.2) = assign e X.env :: (assignEach es X.env).map (·.2) := by rfl) : PGs X (e :: es) (gCons t u) := by
 intro pins s σ H vs us Q I r h
 obtain ⟨v, vr, e1, h⟩ := h
 subst e1
 cases r with
 | cons r rr =>
  rw [hs]
  refine assignInOrder_cons (thn (h1 pins s σ H _ _ _ I r h) fun _ s1 zz0 => ?_)
  obtain ⟨σ1, H1, I1, q1⟩ := zz0
  exact h2 pins s1 σ1 H1 _ _ Q I1 rr q1
noncomputable def gTup (K : PySem.W.Frag) (n : Nat) (t : TGs) : TG := fun v σ H Q => ∃ a xs, v = .ref a /\ SqT K H a xs /\ xs.length = n /\ t xs σ H Q
theorem pg_tup {es : List Expr} {k : Nat} {t : TGs} {n : Nat} (hc : X.calm = true) (h : PGs X es t)
  (hn : (assignEach es X.env).length = n := by rfl) (hst : (assignEach es X.env).findIdx? (·.1) = none := by rfl) : PG X (.Tuple es k pos) (gTup X.K n t) := by
 intro pins s σ H v u Q I r hw
 obtain ⟨a, xs, e1, hq, hl, hw⟩ := hw
 subst e1
 cases r
 obtain ⟨its, rv, ht, hz⟩ := I.tuple hq
 refine assign_Tuple_tuple (I.ok.hd hc) ht (by simp [hn, <- hl, rv.length]) hst fun h' hx => ?_
 have I1 : Inv X pins σ H { s with heap := h' } := I.kept (t' := s.toks) fun b o e => hx b o (Nat.ne_of_lt (Heap.lt_size e)) e
 exact h pins _ σ H xs _ Q I1 (by simpa using rv) hw
noncomputable def tAsg (te : TE) (g : TG) : TS := fun D σ H => te σ H fun x H1 => g x σ H1 D.nx
theorem ps_asg {tg e : Expr} {te : TE} {g : TG} (he : PE X e te) (hg : PG X tg g) (hs : swapsWithSole [tg] e pos.line X.env = pure false := by rfl) (hw : swappedStores [tg] e X.env = pure none := by rfl)
  (h1 : (assignEach [tg] X.env).map (·.2) = [assign tg X.env] := by rfl) : PS X (.Assign [tg] e pos) (tAsg te g) := by
 intro pins s σ H D I h
 refine wpAny_Assign_stores (thn (he pins s σ H _ I h) fun v s1 zz0 => ?_) hs hw
 obtain ⟨x, H1, I1, r1, q1⟩ := zz0
 rw [h1]
 exact thn (hg pins s1 σ H1 x v _ I1 r1 q1) fun _ s2 q => q
theorem ps_set {i : Nat} {x : Str} {e : Expr} {te : TE} {pos' : Pos} (hN : X.N.Nodup) (hi : X.N[i]? = some x) (hx : Loc X.env.scope x) (he : PE X e te) (hs : swapsWith e (some (.Name x pos')) pos.line X.env = pure false := by rfl) (hf : X.fn x = true \/ X.env.scope.names.lookup x = some .local := by first | exact .inl rfl | exact .inr rfl | assumption) :
  PS X (.Assign [.Name x pos'] e pos) (tAsg te (gName i)) := by
 intro pins s σ H D I h
 refine wpAny_Assign_Name (thn (he pins s σ H _ I h) fun v s1 zz0 => ?_) hs
 obtain ⟨y, H1, I1, r1, q1⟩ := zz0
 exact store_ok I1 hN hi hx r1 (fun s2 I2 => ⟨_, H1, I2, q1⟩) hf
end
section
variable {X : Cx} {pos : Pos}
noncomputable def tWhile (c : TT) (tb : TS) : TS := fun D σ H => ∃ W : Nat -> St -> Hp -> Prop, (∃ m, W m σ H) /\ ∀ m σ H, W m σ H ->
 c σ H fun b H1 => if b = true then ∃ N : St -> Hp -> Prop, (∀ σ' H', N σ' H' -> ∃ m', m' < m /\ W m' σ' H') /\ tb { D with nx := N, ct := N, bk := D.nx } σ H1 else D.nx σ H1
theorem ps_while {c : Expr} {body : List Stmt} {tc : TT} {tb : TS} (hp : PassesOwn (model X.prog X.w) X.A X.env X.xe) (hc : PT X c tc) (hb : PSs X body tb) : PS X (.While c body [] pos) (tWhile tc tb) := by
 intro pins s σ H D I h
 obtain ⟨W, ⟨m0, w0⟩, turn⟩ := h
 refine wpAny_While (codeAny_whileLoop (fun n s' => ∃ σ' H', Inv X pins σ' H' s' /\ W n σ' H') ?_ m0 ⟨σ, H, I, w0⟩)
 rintro n s1 ⟨σ1, H1, I1, w1⟩
 refine wpAny_passesOwn hp (thn (hc pins s1 σ1 H1 _ I1 (turn n σ1 H1 w1)) fun b s2 zz0 => ?_)
 obtain ⟨H2, I2, q2⟩ := zz0
 cases b with
 | true =>
  obtain ⟨N, hN, q2⟩ := q2
  rw [if_pos rfl]
  refine wpAny_passesOwn hp (thn (hb pins s2 σ1 H2 _ I2 q2) fun f s3 q3 => ?_)
  cases f with
  | next =>
   obtain ⟨σ3, H3, I3, n3⟩ := q3
   obtain ⟨m', hm, w3⟩ := hN σ3 H3 n3
   exact ⟨m', hm, σ3, H3, I3, w3⟩
  | cont =>
   obtain ⟨σ3, H3, I3, n3⟩ := q3
   obtain ⟨m', hm, w3⟩ := hN σ3 H3 n3
   exact ⟨m', hm, σ3, H3, I3, w3⟩
  | brk => exact q3
  | ret v => exact q3
 | false =>
  rw [if_neg Bool.false_ne_true]
  exact wpAny_execs_nil ⟨σ1, H2, I2, q2⟩
end
structure It where
 go : Nat -> Hp -> Prop
 yld : Nat -> Hp -> V -> Hp -> Prop
 stop : Nat -> Hp -> Prop
noncomputable def FpOk (X : Cx) (pins : List (Addr × Obj)) (H : Hp) (b : Addr) : Prop :=
 H b = none /\ b ≠ X.env.locals /\ b ∉ X.fs /\ (b ∈ X.ex \/ X.s₀.heap.objs.size <= b) /\ (∀ x c, X.env.cells.lookup x = some c -> c ≠ b) /\ ∀ p ∈ X.pn ++ pins, p.1 ≠ b
theorem Inv.fpOk {X : Cx} {pins : List (Addr × Obj)} {σ : St} {H H' : Hp} {s : Shared} {b : Addr} (I : Inv X pins σ H s) (hb : s.heap.objs.size <= b) (hn : H' b = none) : FpOk X pins H' b := by
 refine ⟨hn, Nat.ne_of_gt (Nat.lt_of_lt_of_le I.lt hb), I.nofs hb, .inr (Nat.le_trans I.sz hb), fun x c e z => ?_, fun p hp z => ?_⟩
 ·obtain ⟨v, q⟩ := I.cell x c e
  exact absurd (Nat.lt_of_lt_of_le q.lt (by rw [z]; exact hb)) (Nat.lt_irrefl _)
 ·exact absurd (Nat.lt_of_lt_of_le (Heap.lt_size (I.pin p hp).1) (by rw [z]; exact hb)) (Nat.lt_irrefl _)
structure Turn (P : Program) (w : World) (K : PySem.W.Frag) (tg : Expr) (J : It) (fp : List Addr) (it : Addr) (tn : Nat -> Heap -> Prop) : Prop where
 mem : it ∈ fp
 obj : ∀ i h, tn i h -> ∀ b ∈ fp, ∃ o, h.get? b = some o /\ ∀ v, o.data ≠ .cell v
 keep : ∀ i h h', tn i h -> (∀ b ∈ fp, ∀ o, h.get? b = some o -> h'.get? b = some o) -> tn i h'
 item : ∀ (X : Cx), X.prog = P -> X.w = w -> X.K = K -> X.calm = true -> ∀ (i : Nat) (pins : List (Addr × Obj)) (s : Shared) (σ : St) (H : Hp) (E : Value -> Shared -> Prop), Inv X pins σ H s -> (∀ b ∈ fp, FpOk X pins H b) -> tn i s.heap -> J.go i H ->
  wpAny (model P w) X.A (pyNext (.ref it)) (fun r s1 => ∃ u, r = some u /\
   wpAny (model P w) X.A (letOwnedTupleGo tg (.ref it) u) (fun _ s2 => ∃ x H', Inv X pins σ H' s2 /\ RelV x u /\ J.yld i H x H' /\ tn (i + 1) s2.heap /\ ∀ b ∈ fp, H' b = none) E s1) E s
 done : ∀ (X : Cx), X.prog = P -> X.w = w -> X.K = K -> X.calm = true -> ∀ (i : Nat) (pins : List (Addr × Obj)) (s : Shared) (σ : St) (H : Hp) (E : Value -> Shared -> Prop), Inv X pins σ H s -> (∀ b ∈ fp, FpOk X pins H b) -> tn i s.heap -> J.stop i H ->
  wpAny (model P w) X.A (pyNext (.ref it)) (fun r s1 => r = none /\ Inv X pins σ H s1) E s
 self : ∀ (A : Around) (i : Nat) (s : Shared) (Q : Value -> Shared -> Prop) (E : Value -> Shared -> Prop), tn i s.heap -> Q (.ref it) s -> wpAny (model P w) A (pyIter (.ref it)) Q E s
noncomputable abbrev TI := St -> Hp -> (It -> Hp -> Prop) -> Prop
noncomputable def PIE (X : Cx) (pins : List (Addr × Obj)) (σ : St) (tg : Expr) (R : It -> Hp -> Prop) (itv : Value) (s2 : Shared) : Prop :=
 ∃ (it : Addr) (fp : List Addr) (tn : Nat -> Heap -> Prop) (J : It) (H' : Hp), itv = .ref it /\ Inv X pins σ H' s2 /\ Turn X.prog X.w X.K tg J fp it tn /\ tn 0 s2.heap /\ (∀ b ∈ fp, FpOk X pins H' b) /\ R J H'
noncomputable def PI (X : Cx) (tg iter : Expr) (wi : TI) : Prop :=
 ∀ (pins : List (Addr × Obj)) (s : Shared) (σ : St) (H : Hp) (R : It -> Hp -> Prop), Inv X pins σ H s -> wi σ H R ->
  wpAny (model X.prog X.w) X.A (eval iter X.env) (fun v s1 => wpAny (model X.prog X.w) X.A (pyIter v) (PIE X pins σ tg R) X.xe s1) X.xe s
theorem go_of {M : Model} {A : Around} {E : Value -> Shared -> Prop} {s : Shared} {tg : Expr} {it : Addr} {u : Value} {o : Obj} {n : String} {vs : Array Value} {Q : Unit -> Shared -> Prop} (ho : s.heap.get? it = some o) (hc : o.cls = .type n) (hd : o.data = .fields vs)
    (hn : ["enumerate", "zip", "dict_itemiterator", "dict_reverseitemiterator", "odict_iterator", "itertools.zip_longest", "itertools.pairwise"].contains n = false) (hQ : Q () s) : wpAny M A (letOwnedTupleGo tg (.ref it) u) Q E s := by
  unfold letOwnedTupleGo
  cases tg <;> first
    | exact wpAny_pure hQ
    | (cases u <;> first
        | exact wpAny_pure hQ
        | (refine wpAny_bind (wpAny_load ho ?_)
           rw [hc, hd]
           show wpAny M A (if (["enumerate", "zip", "dict_itemiterator", "dict_reverseitemiterator", "odict_iterator", "itertools.zip_longest", "itertools.pairwise"].contains n && vs[0]? == some (rawInt _)) = true then _ else _) Q E s
           rw [if_neg (by intro h; rw [hn, Bool.false_and] at h; cases h)]
           exact wpAny_pure hQ))
noncomputable def Itl (K : PySem.W.Frag) (a : Addr) : It :=
 ⟨fun i H => ∃ xs x, SqL K H a xs /\ xs[i]? = some x, fun i H x H' => H' = H /\ ∀ xs, SqL K H a xs -> xs[i]? = some x, fun i H => ∃ xs, SqL K H a xs /\ xs.length <= i⟩
noncomputable def Itt (K : PySem.W.Frag) (a : Addr) : It :=
 ⟨fun i H => ∃ xs x, SqT K H a xs /\ xs[i]? = some x, fun i H x H' => H' = H /\ ∀ xs, SqT K H a xs -> xs[i]? = some x, fun i H => ∃ xs, SqT K H a xs /\ xs.length <= i⟩
noncomputable def Itr (lo : Int) (n : Nat) : It := ⟨fun i _ => i < n, fun i H x H' => H' = H /\ x = .int (lo + i), fun i _ => n <= i⟩
theorem turn_list {P : Program} {w : World} {K : PySem.W.Frag} {tg : Expr} (a it : Addr) : Turn P w K tg (Itl K a) [it] it (fun i h => h.IsListIter it a i) where
 mem := by simp
 obj := fun i h st b hb => by
  have e : b = it := by simpa using hb
  subst e
  obtain ⟨o, e, c, d⟩ := st
  exact ⟨o, e, fun v z => by rw [d] at z; cases z⟩
 keep := fun i h h' st k => st.at fun o e => k it (by simp) o e
 item := by
  intro X hP hw hK hc i pins s σ H E I hf st hg
  subst hP hw hK
  obtain ⟨xs, x, hq, hx⟩ := hg
  obtain ⟨its, rv, p, hz⟩ := I.list hq
  obtain ⟨u, hu, ru⟩ := rv.get hx
  obtain ⟨f0, f1, f2, f3, f4, f5⟩ := hf it (by simp)
  refine wpAny_pyNext_list_item st p.isList (x := u) (by simpa using hu) fun h' st' sb => ?_
  have I1 : Inv X pins σ H { s with heap := h' } := I.turned (t' := s.toks) (fun b o hb e => (sb.2 b hb).trans e) f0 f1 f3 f4 f5
  obtain ⟨o, e, c, d⟩ := id st'
  exact ⟨u, rfl, go_of (s := { s with heap := h' }) e c d (by decide) ⟨x, H, I1, ru, ⟨rfl, fun ys hy => by rw [I.list_inj hy hq]; exact hx⟩, st', fun b hb => (hf b hb).1⟩⟩
 done := by
  intro X hP hw hK hc i pins s σ H E I hf st hg
  subst hP hw hK
  obtain ⟨xs, hq, hx⟩ := hg
  obtain ⟨its, rv, p, hz⟩ := I.list hq
  obtain ⟨f0, f1, f2, f3, f4, f5⟩ := hf it (by simp)
  have hl := rv.length
  exact wpAny_pyNext_list_end (I.ok.hd hc) st p.isList (by simp; exact Om.k205 hx hl) fun h' eb => ⟨rfl, I.turned (t' := s.toks) (fun b o hb e => eb b o hb e) f0 f1 f3 f4 f5⟩
 self := fun _ _ _ _ _ st h => wpAny_pyIter_listiter st h
theorem turn_tuple {P : Program} {w : World} {K : PySem.W.Frag} {tg : Expr} (a it : Addr) : Turn P w K tg (Itt K a) [it] it (fun i h => h.IsTupleIter it a i) where
 mem := by simp
 obj := fun i h st b hb => by
  have e : b = it := by simpa using hb
  subst e
  obtain ⟨o, e, c, d⟩ := st
  exact ⟨o, e, fun v z => by rw [d] at z; cases z⟩
 keep := fun i h h' st k => st.at fun o e => k it (by simp) o e
 item := by
  intro X hP hw hK hc i pins s σ H E I hf st hg
  subst hP hw hK
  obtain ⟨xs, x, hq, hx⟩ := hg
  obtain ⟨its, rv, p, hz⟩ := I.tuple hq
  obtain ⟨u, hu, ru⟩ := rv.get hx
  obtain ⟨f0, f1, f2, f3, f4, f5⟩ := hf it (by simp)
  refine wpAny_pyNext_tuple_item st (show s.heap.IsTuple a its.toArray from p) (x := u) (by simpa using hu) fun h' st' sb => ?_
  have I1 : Inv X pins σ H { s with heap := h' } := I.turned (t' := s.toks) (fun b o hb e => (sb.2 b hb).trans e) f0 f1 f3 f4 f5
  obtain ⟨o, e, c, d⟩ := id st'
  exact ⟨u, rfl, go_of (s := { s with heap := h' }) e c d (by decide) ⟨x, H, I1, ru, ⟨rfl, fun ys hy => by rw [I.tuple_inj hy hq]; exact hx⟩, st', fun b hb => (hf b hb).1⟩⟩
 done := by
  intro X hP hw hK hc i pins s σ H E I hf st hg
  subst hP hw hK
  obtain ⟨xs, hq, hx⟩ := hg
  obtain ⟨its, rv, p, hz⟩ := I.tuple hq
  obtain ⟨f0, f1, f2, f3, f4, f5⟩ := hf it (by simp)
  have hl := rv.length
  exact wpAny_pyNext_tuple_end (I.ok.hd hc) st (show s.heap.IsTuple a its.toArray from p) (by simp; exact Om.k205 hx hl) fun h' eb => ⟨rfl, I.turned (t' := s.toks) (fun b o hb e => eb b o hb e) f0 f1 f3 f4 f5⟩
 self := fun _ _ _ _ _ st h => wpAny_pyIter_tupleiter st h
theorem turn_range {P : Program} {w : World} {K : PySem.W.Frag} {tg : Expr} (it : Addr) (lo : Int) (n : Nat) : Turn P w K tg (Itr lo n) [it] it (fun i h => IsRangeIter h it (lo + (i : Nat) * 1) ((n : Int) - (i : Nat)) 1) where
 mem := by simp
 obj := fun i h st b hb => by
  have e : b = it := by simpa using hb
  subst e
  exact ⟨_, st, fun v z => by
   have z' : Data.fields _ = Data.cell v := z
   cases z'⟩
 keep := fun i h h' st k => k it (by simp) _ st
 item := by
  intro X hP hw hK hc i pins s σ H E I hf st hg
  subst hP hw hK
  obtain ⟨f0, f1, f2, f3, f4, f5⟩ := hf it (by simp)
  have W := Walks.range (prog := X.prog) (w := X.w) (I.ok.hd hc) it lo 1 n
  refine W.item i s _ _ hg st fun v h' tk hv st' kk => ?_
  obtain ⟨t, rfl⟩ := hv
  have I1 : Inv X pins σ H { s with heap := h', toks := tk } := I.turned (fun b o hb e => kk b o (by simpa using hb) e) f0 f1 f3 f4 f5
  refine ⟨_, rfl, go_of (s := { s with heap := h', toks := tk }) (n := "range_iterator") st' rfl rfl (by decide) ⟨.int (lo + i), H, I1, ⟨t, ?_⟩, ⟨rfl, rfl⟩, st', fun b hb => (hf b hb).1⟩⟩
  rw [Int.mul_one]
 done := by
  intro X hP hw hK hc i pins s σ H E I hf st hg
  subst hP hw hK
  obtain ⟨f0, f1, f2, f3, f4, f5⟩ := hf it (by simp)
  exact wpAny_pyNext_range_end (I.ok.hd hc) st (by have : n <= i := hg; omega) fun h' eb => ⟨rfl, I.turned (t' := s.toks) (fun b o hb e => eb b o hb e) f0 f1 f3 f4 f5⟩
 self := fun _ _ _ _ _ st h => wpAny_pyIter_rangeiter st h
end L2
namespace L2
open PySem PySem.Spec PyProof.Rows
section
variable {X : Cx} {tg : Expr}
noncomputable def iList (K : PySem.W.Frag) (tl : TE) : TI := fun σ H R => tl σ H fun x H1 => ∃ a, x = .ref a /\ (∃ xs, SqL K H1 a xs) /\ R (Itl K a) H1
noncomputable def iTup (K : PySem.W.Frag) (tl : TE) : TI := fun σ H R => tl σ H fun x H1 => ∃ a, x = .ref a /\ (∃ xs, SqT K H1 a xs) /\ R (Itt K a) H1
theorem pi_list {l : Expr} {tl : TE} (hl : PE X l tl) : PI X tg l (iList X.K tl) := by
 intro pins s σ H R I h
 refine thn (hl pins s σ H _ I h) fun v s1 zz0 => ?_
 obtain ⟨x, H1, I1, r1, q1⟩ := zz0
 obtain ⟨a, e, ⟨xs, hq⟩, q⟩ := q1
 subst e
 cases r1
 obtain ⟨its, rv, p, hz⟩ := I1.list hq
 refine wpAny_pyIter_list p.isList ?_
 refine ⟨s1.heap.objs.size, [s1.heap.objs.size], _, _, H1, rfl, I1.kept (t' := s1.toks) fun b o e => Heap.get?_push_of_some _ e, turn_list a _, ⟨_, Heap.get?_push_size _ rfl, rfl, rfl⟩, fun b hb => ?_, q⟩
 have e : b = s1.heap.objs.size := by simpa using hb
 subst e
 exact I1.fpOk (Nat.le_refl _) (I1.hok.fresh (Nat.le_refl _))
theorem pi_tup {l : Expr} {tl : TE} (hl : PE X l tl) : PI X tg l (iTup X.K tl) := by
 intro pins s σ H R I h
 refine thn (hl pins s σ H _ I h) fun v s1 zz0 => ?_
 obtain ⟨x, H1, I1, r1, q1⟩ := zz0
 obtain ⟨a, e, ⟨xs, hq⟩, q⟩ := q1
 subst e
 cases r1
 obtain ⟨its, rv, p, hz⟩ := I1.tuple hq
 refine wpAny_pyIter_tuple (show s1.heap.IsTuple a its.toArray from p) ?_
 refine ⟨s1.heap.objs.size, [s1.heap.objs.size], _, _, H1, rfl, I1.kept (t' := s1.toks) fun b o e => Heap.get?_push_of_some _ e, turn_tuple a _, ⟨_, Heap.get?_push_size _ rfl, rfl, rfl⟩, fun b hb => ?_, q⟩
 have e : b = s1.heap.objs.size := by simpa using hb
 subst e
 exact I1.fpOk (Nat.le_refl _) (I1.hok.fresh (Nat.le_refl _))
theorem range_it {pins : List (Addr × Obj)} {σ : St} {H : Hp} {s : Shared} {R : It -> Hp -> Prop} {E : Value -> Shared -> Prop} {lo hi : Int} {t u v : Tok} {tk : Nat} (I : Inv X pins σ H s) (h1 : -(2 ^ 62) <= lo) (h2 : lo < 2 ^ 62) (h3 : -(2 ^ 62) <= hi) (h4 : hi < 2 ^ 62)
  (q : R (Itr lo (hi - lo).toNat) H) : wpAny (model X.prog X.w) X.A (pyIter (.ref s.heap.objs.size)) (PIE X pins σ tg R) E { s with heap := s.heap.push { cls := .type "range", data := .fields #[.int lo t, .int hi u, .int 1 v] }, toks := tk } := by
 refine wpAny_pyIter_range (IsRange.new ..) (small_one h1 h2 h3 h4) ?_
 have I1 : Inv X pins σ H { s with heap := s.heap.push { cls := .type "range", data := .fields #[.int lo t, .int hi u, .int 1 v] }, toks := tk } := I.kept fun b o e => Heap.get?_push_of_some _ e
 refine ⟨(s.heap.push { cls := .type "range", data := .fields #[.int lo t, .int hi u, .int 1 v] }).objs.size, [(s.heap.push { cls := .type "range", data := .fields #[.int lo t, .int hi u, .int 1 v] }).objs.size], _, _, H, rfl,
  I1.kept (t' := tk) fun b o e => Heap.get?_push_of_some _ e, turn_range _ lo (hi - lo).toNat, ?_, fun b hb => ?_, q⟩
 ·have e1 : lo + ((0 : Nat) : Int) * 1 = lo := by simp
  have e2 : (((hi - lo).toNat : Nat) : Int) - ((0 : Nat) : Int) = Builtin.Range.rangeSize lo hi 1 := by rw [rangeSize_one]; split <;> omega
  show IsRangeIter _ _ (lo + ((0 : Nat) : Int) * 1) ((((hi - lo).toNat : Nat) : Int) - ((0 : Nat) : Int)) 1
  rw [e1, e2]
  exact Heap.get?_push_size _ rfl
 ·have e : b = (s.heap.push { cls := .type "range", data := .fields #[.int lo t, .int hi u, .int 1 v] }).objs.size := by simpa using hb
  subst e
  exact I1.fpOk (Nat.le_refl _) (I1.hok.fresh (Nat.le_refl _))
noncomputable def iRng1 (ta : TA) : TI := fun σ H R => ta σ H fun vs H1 => ∃ j : Int, vs = [.int j] /\ -(2 ^ 62) <= j /\ j < 2 ^ 62 /\ R (Itr 0 j.toNat) H1
noncomputable def iRng2 (ta : TA) : TI := fun σ H R => ta σ H fun vs H1 => ∃ i j : Int, vs = [.int i, .int j] /\ (-(2 ^ 62) <= i /\ i < 2 ^ 62 /\ -(2 ^ 62) <= j /\ j < 2 ^ 62) /\ R (Itr i (j - i).toNat) H1
theorem pi_range1 {a : Expr} {ta : TA} {p pos : Pos} (hg : Gl X "range") (hm : X.mg "range" = none) (ha : PA X [a] ta) (hs : starEach [a] X.env = [(false, eval a X.env)] := by rfl) : PI X tg (.Call (.Name "range" p) [a] [] pos) (iRng1 ta) := by
 intro pins s σ H R I h
 refine Call_ (ld_blt I hg hm boot_range (PyProof.Rows.callWith_type1 (thn (ha pos pins s σ H _ I h) fun us s1 zz0 => ?_) hs rfl))
 obtain ⟨vs, H1, I1, r1, q1⟩ := zz0
 obtain ⟨j, e, q1, q2, q⟩ := q1
 subst e
 cases r1 with
 | cons r rr =>
  cases rr
  obtain ⟨t, rfl⟩ := r
  exact call_range_1 (range_it I1 (by exact Om.k162 ) (by exact Om.k161 ) q1 q2 (by simpa using q))
theorem pi_range2 {a b : Expr} {ta : TA} {p pos : Pos} (hg : Gl X "range") (hm : X.mg "range" = none) (ha : PA X [a, b] ta) (hs : starEach [a, b] X.env = [(false, eval a X.env), (false, eval b X.env)] := by rfl) (hs2 : starEach [b] X.env = [(false, eval b X.env)] := by rfl) :
  PI X tg (.Call (.Name "range" p) [a, b] [] pos) (iRng2 ta) := by
 intro pins s σ H R I h
 refine Call_ (ld_blt I hg hm boot_range (PyProof.Rows.callWith_type1 (thn (ha pos pins s σ H _ I h) fun us s1 zz0 => ?_) (by rw [hs, hs2]) (by rw [hs2]; rfl)))
 obtain ⟨vs, H1, I1, r1, q1⟩ := zz0
 obtain ⟨i, j, e, ⟨q1, q2, q3, q4⟩, q⟩ := q1
 subst e
 cases r1 with
 | cons r rr =>
  cases rr with
  | cons r' rr =>
   cases rr
   obtain ⟨t, rfl⟩ := r
   obtain ⟨t', rfl⟩ := r'
   exact call_range_2 (range_it I1 q1 q2 q3 q4 q)
noncomputable def tFor (wi : TI) (g : TG) (tb : TS) : TS := fun D σ H => wi σ H fun J H1 => ∃ W : Nat -> Nat -> St -> Hp -> Prop, (∃ m, W 0 m σ H1) /\ ∀ i m σ H, W i m σ H ->
 (J.stop i H /\ D.nx σ H) \/ (J.go i H /\ ∃ N : St -> Hp -> Prop, (∀ σ' H', N σ' H' -> ∃ m', m' < m /\ W (i + 1) m' σ' H') /\ ∀ x H', J.yld i H x H' -> g x σ H' fun σ2 H2 => tb { D with nx := N, ct := N, bk := D.nx } σ2 H2)
noncomputable def pinsAt (fp : List Addr) (h : Heap) : List (Addr × Obj) := fp.filterMap fun b => (h.get? b).map fun o => (b, o)
theorem mem_pinsAt {fp : List Addr} {h : Heap} {b : Addr} {o : Obj} (hb : b ∈ fp) (e : h.get? b = some o) : (b, o) ∈ pinsAt fp h := List.mem_filterMap.mpr ⟨b, hb, by rw [e]; rfl⟩
theorem of_pinsAt {fp : List Addr} {h : Heap} {p : Addr × Obj} (hp : p ∈ pinsAt fp h) : p.1 ∈ fp /\ h.get? p.1 = some p.2 := by
 obtain ⟨b, hb, e⟩ := List.mem_filterMap.mp hp
 cases q : h.get? b with
 | none => rw [q] at e; cases e
 | some o =>
  rw [q] at e
  have e' : (b, o) = p := Option.some.inj e
  subst e'
  exact ⟨hb, q⟩
theorem Inv.pinned {pins : List (Addr × Obj)} {σ : St} {H : Hp} {s : Shared} {fp : List Addr} (I : Inv X pins σ H s) (hf : ∀ b ∈ fp, FpOk X pins H b) (ho : ∀ b ∈ fp, ∃ o, s.heap.get? b = some o /\ ∀ v, o.data ≠ .cell v) : Inv X (pins ++ pinsAt fp s.heap) σ H s :=
 I.pins_of fun p hp => (List.mem_append.mp hp).elim (fun z => I.pin p (List.mem_append_right _ z)) fun z => by
  obtain ⟨hb, e⟩ := of_pinsAt z
  obtain ⟨f0, f1, f2, _⟩ := hf p.1 hb
  obtain ⟨o, e', d⟩ := ho p.1 hb
  rw [e] at e'; cases e'
  exact ⟨e, f0, f1, f2, d⟩
theorem Inv.unpinned {pins pl : List (Addr × Obj)} {σ : St} {H : Hp} {s : Shared} (I : Inv X (pins ++ pl) σ H s) : Inv X pins σ H s := I.pins_of fun p hp => I.pin p (List.mem_append_right _ (List.mem_append_left _ hp))
theorem ps_for {iter : Expr} {body : List Stmt} {wi : TI} {g : TG} {tb : TS} {pos : Pos} (hp : PassesOwn (model X.prog X.w) X.A X.env X.xe) (hc : X.calm = true) (hi : PI X tg iter wi) (hg : PG X tg g) (hb : PSs X body tb)
  (hs : ∀ x, foldedSetIterable iter X.env x = pure x := by intro _; rfl) : PS X (.For tg iter body [] pos) (tFor wi g tb) := by
 intro pins s σ H D I h
 refine wpAny_For (thn (hi pins s σ H _ I h) fun v s1 h1 => thn h1 fun itv s2 h2 => ?_) hs
 obtain ⟨it, fp, tn, J, H2, e, I2, T, st2, f2, W, ⟨m0, w0⟩, turn⟩ := h2
 subst e
 have stat : ∀ {H' : Hp}, (∀ b ∈ fp, H' b = none) -> ∀ b ∈ fp, FpOk X pins H' b := fun hn b hb => ⟨hn b hb, (f2 b hb).2⟩
 refine codeAny_forLoop_any (fun n s' => ∃ i σ' H', Inv X pins σ' H' s' /\ tn i s'.heap /\ (∀ b ∈ fp, H' b = none) /\ W i n σ' H') ?_ m0 ⟨0, σ, H2, I2, st2, fun b hb => (f2 b hb).1, w0⟩
 rintro n s3 ⟨i, σ3, H3, I3, st3, fr3, w3⟩
 rcases turn i n σ3 H3 w3 with ⟨stop, qn⟩ | ⟨go, N, hN, step⟩
 ·refine wpAny_passesOwn hp (thn (T.done X rfl rfl rfl hc i pins s3 σ3 H3 X.xe I3 (stat fr3) st3 stop) fun r s4 zz0 => ?_)
  obtain ⟨hr, I4⟩ := zz0
  subst hr
  exact wpAny_execs_nil ⟨σ3, H3, I4, qn⟩
 ·refine wpAny_passesOwn hp (thn (T.item X rfl rfl rfl hc i pins s3 σ3 H3 X.xe I3 (stat fr3) st3 go) fun r s4 zz0 => ?_)
  obtain ⟨u, hr, h4⟩ := zz0
  subst hr
  refine wpAny_passesOwn hp (thn h4 fun _ s5 zz0 => ?_)
  obtain ⟨x, H5, I5, r5, y5, st5, fr5⟩ := zz0
  have I5' := I5.pinned (stat fr5) (T.obj _ _ st5)
  refine wpAny_passesOwn hp (thn (hg _ s5 σ3 H5 x u _ I5' r5 (step x H5 y5)) fun _ s6 zz0 => ?_)
  obtain ⟨σ6, H6, I6, q6⟩ := zz0
  refine wpAny_passesOwn hp (thn (hb _ s6 σ6 H6 _ I6 q6) fun f s7 q7 => ?_)
  have again : ∀ {σ7 : St} {H7 : Hp}, Inv X (pins ++ pinsAt fp s5.heap) σ7 H7 s7 -> N σ7 H7 -> ∃ m, m < n /\ ∃ i σ' H', Inv X pins σ' H' s7 /\ tn i s7.heap /\ (∀ b ∈ fp, H' b = none) /\ W i m σ' H' := fun {σ7 H7} I7 n7 => by
   obtain ⟨m', hm, w7⟩ := hN σ7 H7 n7
   refine ⟨m', hm, i + 1, σ7, H7, I7.unpinned, T.keep _ _ _ st5 fun b hb o e => (I7.pin (b, o) (List.mem_append_right _ (List.mem_append_right _ (mem_pinsAt hb e)))).1, fun b hb => ?_, w7⟩
   obtain ⟨o, e, d⟩ := T.obj _ _ st5 b hb
   exact (I7.pin (b, o) (List.mem_append_right _ (List.mem_append_right _ (mem_pinsAt hb e)))).2.1
  cases f with
  | next => obtain ⟨σ7, H7, I7, n7⟩ := q7; exact again I7 n7
  | cont => obtain ⟨σ7, H7, I7, n7⟩ := q7; exact again I7 n7
  | brk => obtain ⟨σ7, H7, I7, q7⟩ := q7; exact ⟨σ7, H7, I7.unpinned, q7⟩
  | ret v => obtain ⟨x7, σ7, H7, I7, r7, q7⟩ := q7; exact ⟨x7, σ7, H7, I7.unpinned, r7, q7⟩
end
theorem for_list {K : PySem.W.Frag} {a : Addr} {xs : List V} {g : TG} {tb : TS} {D : Ends} {σ : St} {H : Hp} (Pv : Nat -> St -> Hp -> Prop) (h0 : Pv 0 σ H) (hl : ∀ i σ H, i <= xs.length -> Pv i σ H -> SqL K H a xs)
  (hs : ∀ i x σ H, xs[i]? = some x -> Pv i σ H -> g x σ H fun σ2 H2 => tb { D with nx := Pv (i + 1), ct := Pv (i + 1), bk := D.nx } σ2 H2) (hd : ∀ σ H, Pv xs.length σ H -> D.nx σ H) :
  ∃ W : Nat -> Nat -> St -> Hp -> Prop, (∃ m, W 0 m σ H) /\ ∀ i m σ H, W i m σ H ->
   ((Itl K a).stop i H /\ D.nx σ H) \/ ((Itl K a).go i H /\ ∃ N : St -> Hp -> Prop, (∀ σ' H', N σ' H' -> ∃ m', m' < m /\ W (i + 1) m' σ' H') /\ ∀ x H', (Itl K a).yld i H x H' -> g x σ H' fun σ2 H2 => tb { D with nx := N, ct := N, bk := D.nx } σ2 H2) := by
 refine ⟨fun i m σ H => m = xs.length - i /\ i <= xs.length /\ Pv i σ H, ⟨xs.length, by simp, Nat.zero_le _, h0⟩, ?_⟩
 rintro i m σ H ⟨rfl, hi, p⟩
 have q := hl i σ H hi p
 by_cases hlt : i < xs.length
 ·refine .inr ⟨⟨xs, xs[i], q, by simp [hlt]⟩, Pv (i + 1), fun σ' H' p' => ⟨xs.length - (i + 1), by exact Om.k157 hlt, rfl, hlt, p'⟩, fun x H' y => ?_⟩
  obtain ⟨e, y⟩ := y
  subst e
  exact hs i x σ _ (y xs q) p
 ·have e : i = xs.length := by exact Om.k156 hi hlt
  subst e
  exact .inl ⟨⟨xs, q, Nat.le_refl _⟩, hd σ H p⟩
theorem for_tup {K : PySem.W.Frag} {a : Addr} {xs : List V} {g : TG} {tb : TS} {D : Ends} {σ : St} {H : Hp} (Pv : Nat -> St -> Hp -> Prop) (h0 : Pv 0 σ H) (hl : ∀ i σ H, i <= xs.length -> Pv i σ H -> SqT K H a xs)
  (hs : ∀ i x σ H, xs[i]? = some x -> Pv i σ H -> g x σ H fun σ2 H2 => tb { D with nx := Pv (i + 1), ct := Pv (i + 1), bk := D.nx } σ2 H2) (hd : ∀ σ H, Pv xs.length σ H -> D.nx σ H) :
  ∃ W : Nat -> Nat -> St -> Hp -> Prop, (∃ m, W 0 m σ H) /\ ∀ i m σ H, W i m σ H ->
   ((Itt K a).stop i H /\ D.nx σ H) \/ ((Itt K a).go i H /\ ∃ N : St -> Hp -> Prop, (∀ σ' H', N σ' H' -> ∃ m', m' < m /\ W (i + 1) m' σ' H') /\ ∀ x H', (Itt K a).yld i H x H' -> g x σ H' fun σ2 H2 => tb { D with nx := N, ct := N, bk := D.nx } σ2 H2) := by
 refine ⟨fun i m σ H => m = xs.length - i /\ i <= xs.length /\ Pv i σ H, ⟨xs.length, by simp, Nat.zero_le _, h0⟩, ?_⟩
 rintro i m σ H ⟨rfl, hi, p⟩
 have q := hl i σ H hi p
 by_cases hlt : i < xs.length
 ·refine .inr ⟨⟨xs, xs[i], q, by simp [hlt]⟩, Pv (i + 1), fun σ' H' p' => ⟨xs.length - (i + 1), by exact Om.k157 hlt, rfl, hlt, p'⟩, fun x H' y => ?_⟩
  obtain ⟨e, y⟩ := y
  subst e
  exact hs i x σ _ (y xs q) p
 ·have e : i = xs.length := by exact Om.k156 hi hlt
  subst e
  exact .inl ⟨⟨xs, q, Nat.le_refl _⟩, hd σ H p⟩
theorem for_range {lo : Int} {n : Nat} {g : TG} {tb : TS} {D : Ends} {σ : St} {H : Hp} (Pv : Nat -> St -> Hp -> Prop) (h0 : Pv 0 σ H)
  (hs : ∀ i σ H, i < n -> Pv i σ H -> g (.int (lo + i)) σ H fun σ2 H2 => tb { D with nx := Pv (i + 1), ct := Pv (i + 1), bk := D.nx } σ2 H2) (hd : ∀ σ H, Pv n σ H -> D.nx σ H) :
  ∃ W : Nat -> Nat -> St -> Hp -> Prop, (∃ m, W 0 m σ H) /\ ∀ i m σ H, W i m σ H ->
   ((Itr lo n).stop i H /\ D.nx σ H) \/ ((Itr lo n).go i H /\ ∃ N : St -> Hp -> Prop, (∀ σ' H', N σ' H' -> ∃ m', m' < m /\ W (i + 1) m' σ' H') /\ ∀ x H', (Itr lo n).yld i H x H' -> g x σ H' fun σ2 H2 => tb { D with nx := N, ct := N, bk := D.nx } σ2 H2) := by
 refine ⟨fun i m σ H => m = n - i /\ i <= n /\ Pv i σ H, ⟨n, by simp, Nat.zero_le _, h0⟩, ?_⟩
 rintro i m σ H ⟨rfl, hi, p⟩
 by_cases hlt : i < n
 ·refine .inr ⟨hlt, Pv (i + 1), fun σ' H' p' => ⟨n - (i + 1), by exact Om.k157 hlt, rfl, hlt, p'⟩, fun x H' y => ?_⟩
  obtain ⟨e, y⟩ := y
  subst e y
  exact hs i σ _ hlt p
 ·have e : i = n := by exact Om.k156 hi hlt
  subst e
  exact .inl ⟨Nat.le_refl _, hd σ H p⟩
end L2
namespace L2
open PySem PySem.Spec PyProof.Rows
noncomputable abbrev R2 := V -> V -> Hp -> VK -> Prop
noncomputable def OpR (X : Cx) (f : Value -> Value -> Sem Value) (r : R2) : Prop :=
 ∀ (pins : List (Addr × Obj)) (s : Shared) (σ : St) (H : Hp) (x y : V) (v u : Value) (Q : VK), Inv X pins σ H s -> RelV x v -> RelV y u -> r x y H Q ->
  wpAny (model X.prog X.w) X.A (f v u) (EP X pins σ Q) X.xe s
noncomputable def UnR (X : Cx) (f : Value -> Sem Value) (r : V -> Hp -> VK -> Prop) : Prop :=
 ∀ (pins : List (Addr × Obj)) (s : Shared) (σ : St) (H : Hp) (x : V) (v : Value) (Q : VK), Inv X pins σ H s -> RelV x v -> r x H Q ->
  wpAny (model X.prog X.w) X.A (f v) (EP X pins σ Q) X.xe s
noncomputable def CallR (X : Cx) (f : Value) (r : List V -> Hp -> VK -> Prop) : Prop :=
 ∀ (pins : List (Addr × Obj)) (s : Shared) (σ : St) (H : Hp) (xs : List V) (us : List Value) (Q : VK), Inv X pins σ H s -> Vals xs us -> r xs H Q ->
  wpAny (model X.prog X.w) X.A (call f us) (EP X pins σ Q) X.xe s
noncomputable def tOp (r : R2) (ta tb : TE) : TE := fun σ H Q => ta σ H fun x H1 => tb σ H1 fun y H2 => r x y H2 Q
noncomputable def tUn (r : V -> Hp -> VK -> Prop) (ta : TE) : TE := fun σ H Q => ta σ H fun x H1 => r x H1 Q
inductive RII (C : Int -> Int -> Prop) (g : Int -> Int -> V) (x : V) (y : V) (H : Hp) (Q : VK) : Prop where
 | mk (i : Int) (j : Int) (_ : x = .int i) (_ : y = .int j) (_ : C i j) (_ : Q (g i j) H) : RII C g x y H Q
noncomputable def rI (C : Int -> Int -> Prop) (g : Int -> Int -> V) : R2 := fun x y H Q => RII C g x y H Q
inductive RI0I (g : Int -> Int -> V) (x : V) (y : V) (H : Hp) (Q : VK) : Prop where
 | mk (i : Int) (j : Int) (_ : x = .int i) (_ : y = .int j) (_ : Q (g i j) H) : RI0I g x y H Q
noncomputable def rI0 (g : Int -> Int -> V) : R2 := fun x y H Q => RI0I g x y H Q
noncomputable def rU (g : Int -> V) : V -> Hp -> VK -> Prop := fun x H Q => ∃ i, x = .int i /\ Q (g i) H
section
variable {X : Cx} {a b c : Expr} {ta tb tc : TE} {pos : Pos}
theorem binT (ha : PE X a ta) (hb : PE X b tb) {pins : List (Addr × Obj)} {s : Shared} {σ : St} {H : Hp} {R : V -> V -> Hp -> Prop} (I : Inv X pins σ H s)
  (h : ta σ H fun x H1 => tb σ H1 fun y H2 => R x y H2) {Q : Value -> Shared -> Prop} {f : Value -> Value -> Sem Value}
  (hf : ∀ v u s2 x y H2, Inv X pins σ H2 s2 -> RelV x v -> RelV y u -> R x y H2 -> wpAny (model X.prog X.w) X.A (f v u) Q X.xe s2) :
  wpAny (model X.prog X.w) X.A (eval a X.env) (fun v s₁ => wpAny (model X.prog X.w) X.A (eval b X.env) (fun u s₂ => wpAny (model X.prog X.w) X.A (f v u) Q X.xe s₂) X.xe s₁) X.xe s := by
 refine thn (ha pins s σ H _ I h) fun v s1 zz0 => ?_
 obtain ⟨x, H1, I1, r1, q1⟩ := zz0
 refine thn (hb pins s1 σ H1 _ I1 q1) fun u s2 zz0 => ?_
 obtain ⟨y, H2, I2, r2, q2⟩ := zz0
 exact hf v u s2 x y H2 I2 r1 r2 q2
theorem pe_op {op : Operator} {r : R2} (ho : OpR X (binaryOp op) r) (ha : PE X a ta) (hb : PE X b tb) : PE X (.BinOp a op b pos) (tOp r ta tb) := by
 intro pins s σ H Q I h
 exact wpAny_BinOp (binT ha hb I h fun v u s2 x y H2 I2 rx ry q => ho pins s2 σ H2 x y v u Q I2 rx ry q)
theorem pe_un {op : UnaryOp} {r : V -> Hp -> VK -> Prop} (ho : UnR X (unaryOp op) r) (ha : PE X a ta) : PE X (.UnaryOp op a pos) (tUn r ta) := by
 intro pins s σ H Q I h
 exact UnaryOp_ (thn (ha pins s σ H _ I h) fun v s1 zz0 => by obtain ⟨x, H1, I1, r1, q1⟩ := zz0; exact ho pins s1 σ H1 x v Q I1 r1 q1)
theorem opI {f : Value -> Value -> Sem Value} {C : Int -> Int -> Prop} {g : Int -> Int -> Int}
  (rule : ∀ (i j : Int) (t u : Tok) (s : Shared) (Q : Value -> Shared -> Prop) (E : Value -> Shared -> Prop), C i j -> Q (.int (g i j) s.toks) { s with toks := s.toks + 1 } -> wpAny (model X.prog X.w) X.A (f (.int i t) (.int j u)) Q E s) :
  OpR X f (rI C fun i j => .int (g i j)) := by
 intro pins s σ H x y v u Q I rx ry h
 obtain ⟨i, j, rfl, rfl, hc, q⟩ := h
 obtain ⟨t, rfl⟩ := rx
 obtain ⟨t', rfl⟩ := ry
 exact rule i j t t' s _ _ hc ⟨.int (g i j), H, I.tok _, ⟨_, rfl⟩, q⟩
theorem opI0 {f : Value -> Value -> Sem Value} {g : Int -> Int -> Int}
  (rule : ∀ (i j : Int) (t u : Tok) (s : Shared) (Q : Value -> Shared -> Prop) (E : Value -> Shared -> Prop), Q (.int (g i j) s.toks) { s with toks := s.toks + 1 } -> wpAny (model X.prog X.w) X.A (f (.int i t) (.int j u)) Q E s) :
  OpR X f (rI0 fun i j => .int (g i j)) := by
 intro pins s σ H x y v u Q I rx ry h
 obtain ⟨i, j, rfl, rfl, q⟩ := h
 obtain ⟨t, rfl⟩ := rx
 obtain ⟨t', rfl⟩ := ry
 exact rule i j t t' s _ _ ⟨.int (g i j), H, I.tok _, ⟨_, rfl⟩, q⟩
theorem opB0 {f : Value -> Value -> Sem Value} {g : Int -> Int -> Bool}
  (rule : ∀ (i j : Int) (t u : Tok) (s : Shared) (Q : Value -> Shared -> Prop) (E : Value -> Shared -> Prop), Q (.bool (g i j)) s -> wpAny (model X.prog X.w) X.A (f (.int i t) (.int j u)) Q E s) :
  OpR X f (rI0 fun i j => .bl (g i j)) := by
 intro pins s σ H x y v u Q I rx ry h
 obtain ⟨i, j, rfl, rfl, q⟩ := h
 obtain ⟨t, rfl⟩ := rx
 obtain ⟨t', rfl⟩ := ry
 exact rule i j t t' s _ _ ⟨.bl (g i j), H, I, rfl, q⟩
noncomputable def CDiv (i j : Int) : Prop := 0 < j /\ j < 1073741824
noncomputable def CPow (i j : Int) : Prop := 0 <= j /\ j <= 1000000 /\ i.natAbs < 2 ^ 64
noncomputable def CMul (i j : Int) : Prop := (-(2 ^ 64) < i /\ i < 2 ^ 64) \/ (-(2 ^ 64) < j /\ j < 2 ^ 64)
theorem CMul.ok {i j : Int} (h : CMul i j) : IntMulOk i j := by
 rcases h with ⟨h1, h2⟩ | ⟨h1, h2⟩
 ·exact .of_left (intBits_le_64 h1 h2)
 ·exact .of_right (intBits_le_64 h1 h2)
theorem two_pow_nn (k : Nat) : (0 : Int) <= 2 ^ k := by
 rw [two_pow_cast]
 exact Int.natCast_nonneg _
theorem op_add : OpR X (binaryOp .Add) (rI0 fun i j => .int (i + j)) := opI0 fun _ _ _ _ _ _ _ q => add_int q
theorem op_sub : OpR X (binaryOp .Sub) (rI0 fun i j => .int (i - j)) := opI0 fun _ _ _ _ _ _ _ q => sub_int q
theorem op_mul : OpR X (binaryOp .Mult) (rI CMul fun i j => .int (i * j)) := opI fun _ _ _ _ _ _ _ hc q => mul_int q hc.ok
theorem op_fdiv : OpR X (binaryOp .FloorDiv) (rI CDiv fun i j => .int (i / j)) := opI fun i j _ _ _ _ _ hc q => by
 have h1 : (0 : Int) < j := hc.1
 have h2 : j < 1073741824 := hc.2
 exact floordiv_int (by exact Om.k100 h1 h2) (by rw [Int.fdiv_eq_ediv_of_nonneg i (by exact Om.k204 h1 h2)]; exact q) (.inl (PyProof.noPylong_small (by omega)))
theorem op_mod : OpR X (binaryOp .Mod) (rI (fun _ j => 0 < j) fun i j => .int (i % j)) := opI fun i j _ _ _ _ _ hc q => by
 have h1 : (0 : Int) < j := hc
 exact mod_int' (by exact Om.k203 hc) (by rw [Int.fmod_eq_emod_of_nonneg i (by exact Om.k202 hc)]; exact q)
theorem op_pow : OpR X (binaryOp .Pow) (rI CPow fun i j => .int (i ^ j.toNat)) := opI fun _ _ _ _ _ _ _ hc q => pow_int_small hc.1 hc.2.1 hc.2.2 q
theorem op_shl : OpR X (binaryOp .LShift) (rI CPow fun i j => .int (i * 2 ^ j.toNat)) := opI fun _ _ _ _ _ _ _ hc q => lshift_int_small hc.1 hc.2.1 hc.2.2 q
theorem op_shr : OpR X (binaryOp .RShift) (rI (fun _ j => 0 <= j) fun i j => .int (i / 2 ^ j.toNat)) := opI fun i j _ _ _ _ _ hc q =>
 rshift_int hc (by rw [Int.fdiv_eq_ediv_of_nonneg i (two_pow_nn _)]; exact q)
theorem unI {f : Value -> Sem Value} {g : Int -> Int}
  (rule : ∀ (i : Int) (t : Tok) (s : Shared) (Q : Value -> Shared -> Prop) (E : Value -> Shared -> Prop), Q (.int (g i) s.toks) { s with toks := s.toks + 1 } -> wpAny (model X.prog X.w) X.A (f (.int i t)) Q E s) :
  UnR X f (rU fun i => .int (g i)) := by
 intro pins s σ H x v Q I rx h
 obtain ⟨i, rfl, q⟩ := h
 obtain ⟨t, rfl⟩ := rx
 exact rule i t s _ _ ⟨.int (g i), H, I.tok _, ⟨_, rfl⟩, q⟩
theorem un_neg : UnR X (unaryOp .USub) (rU fun i => .int (-i)) := unI fun _ _ _ _ _ q => neg_int q
end
noncomputable def scal : V -> V -> Bool
 | .non, .non => true | .non, .int _ => true | .int _, .non => true | .non, .bl _ => true | .bl _, .non => true | .non, .str _ => true | .str _, .non => true
 | .int _, .int _ => true | .bl _, .bl _ => true | .str _, .str _ => true | .byt _, .byt _ => true
 | .int _, .str _ => true | .str _, .int _ => true | .bl _, .str _ => true | .str _, .bl _ => true
 | _, _ => false
noncomputable def rEq : R2 := fun x y H Q => scal x y = true /\ Q (.bl (decide (x = y))) H
noncomputable def rNe : R2 := fun x y H Q => scal x y = true /\ Q (.bl (!decide (x = y))) H
theorem dec_int {i j : Int} : decide (V.int i = V.int j) = (i == j) := by
 rw [Bool.eq_iff_iff]
 simp
theorem dec_bl {i j : Bool} : decide (V.bl i = V.bl j) = (i == j) := by
 rw [Bool.eq_iff_iff]
 simp
theorem dec_str {i j : Str} : decide (V.str i = V.str j) = (i == j) := by
 rw [Bool.eq_iff_iff]
 simp
theorem dec_byt {i j : Array UInt8} : decide (V.byt i = V.byt j) = (i.toList == j.toList) := by
 rw [Bool.eq_iff_iff]
 cases i
 cases j
 simp
section
variable {X : Cx} {a b c : Expr} {ta tb tc : TE} {pos : Pos}
theorem fin_bl {pins : List (Addr × Obj)} {σ : St} {H : Hp} {s : Shared} {Q : VK} {k k' : Bool} (I : Inv X pins σ H s) (q : Q (.bl k) H) (e : k = k') : EP X pins σ Q (.bool k') s := by
 subst e
 exact ⟨.bl k, H, I, rfl, q⟩
theorem op_eq : OpR X (compareOp .Eq) rEq := by
 intro pins s σ H x y v u Q I rx ry h
 obtain ⟨hs, q⟩ := h
 cases x with
 | non =>
  cases rx
  cases y with
  | non => cases ry; exact PySem.EqNone.eq_none_none (fin_bl I q (by simp))
  | bl j => cases ry; exact PySem.EqNone.eq_none_bool (fin_bl I q (by simp))
  | int j => obtain ⟨t', rfl⟩ := ry; exact PySem.EqNone.eq_none_int (fin_bl I q (by simp))
  | str j => obtain ⟨t', rfl⟩ := ry; exact PySem.EqNone.eq_none_str (fin_bl I q (by simp))
  | _ => exact absurd (show false = true from hs) Bool.false_ne_true
 | bl i =>
  cases rx
  cases y with
  | non => cases ry; exact PySem.EqNone.eq_bool_none (fin_bl I q (by simp))
  | bl j => cases ry; exact eq_bool (fin_bl I q dec_bl)
  | str j => obtain ⟨t', rfl⟩ := ry; exact PySem.EqMixed.eq_bool_str (fin_bl I q (by simp))
  | _ => exact absurd (show false = true from hs) Bool.false_ne_true
 | int i =>
  obtain ⟨t, rfl⟩ := rx
  cases y with
  | non => cases ry; exact PySem.EqNone.eq_int_none (fin_bl I q (by simp))
  | int j => obtain ⟨t', rfl⟩ := ry; exact eq_int (fin_bl I q dec_int)
  | str j => obtain ⟨t', rfl⟩ := ry; exact PySem.EqMixed.eq_int_str (fin_bl I q (by simp))
  | _ => exact absurd (show false = true from hs) Bool.false_ne_true
 | str i =>
  obtain ⟨t, rfl⟩ := rx
  cases y with
  | non => cases ry; exact PySem.EqNone.eq_str_none (fin_bl I q (by simp))
  | bl j => cases ry; exact PySem.EqMixed.eq_str_bool (fin_bl I q (by simp))
  | int j => obtain ⟨t', rfl⟩ := ry; exact PySem.EqMixed.eq_str_int (fin_bl I q (by simp))
  | str j => obtain ⟨t', rfl⟩ := ry; exact eq_str (fin_bl I q dec_str)
  | _ => exact absurd (show false = true from hs) Bool.false_ne_true
 | byt i =>
  obtain ⟨t, rfl⟩ := rx
  cases y with
  | byt j => obtain ⟨t', rfl⟩ := ry; exact PySem.W.eq_bytes (fin_bl I q dec_byt)
  | _ => exact absurd (show false = true from hs) Bool.false_ne_true
 | _ => cases y <;> exact absurd (show false = true from hs) Bool.false_ne_true
theorem op_ne : OpR X (compareOp .NotEq) rNe := by
 intro pins s σ H x y v u Q I rx ry h
 obtain ⟨hs, q⟩ := h
 cases x with
 | non =>
  cases rx
  cases y with
  | non => cases ry; exact PySem.EqNone.ne_none_none (fin_bl I q (by simp))
  | bl j => cases ry; exact PySem.EqNone.ne_none_bool (fin_bl I q (by simp))
  | int j => obtain ⟨t', rfl⟩ := ry; exact PySem.EqNone.ne_none_int (fin_bl I q (by simp))
  | str j => obtain ⟨t', rfl⟩ := ry; exact PySem.EqNone.ne_none_str (fin_bl I q (by simp))
  | _ => exact absurd (show false = true from hs) Bool.false_ne_true
 | bl i =>
  cases rx
  cases y with
  | non => cases ry; exact PySem.EqNone.ne_bool_none (fin_bl I q (by simp))
  | bl j => cases ry; exact ne_bool (fin_bl I q (congrArg not dec_bl))
  | str j => obtain ⟨t', rfl⟩ := ry; exact PySem.EqMixed.ne_bool_str (fin_bl I q (by simp))
  | _ => exact absurd (show false = true from hs) Bool.false_ne_true
 | int i =>
  obtain ⟨t, rfl⟩ := rx
  cases y with
  | non => cases ry; exact PySem.EqNone.ne_int_none (fin_bl I q (by simp))
  | int j => obtain ⟨t', rfl⟩ := ry; exact ne_int (fin_bl I q (congrArg not dec_int))
  | str j => obtain ⟨t', rfl⟩ := ry; exact PySem.EqMixed.ne_int_str (fin_bl I q (by simp))
  | _ => exact absurd (show false = true from hs) Bool.false_ne_true
 | str i =>
  obtain ⟨t, rfl⟩ := rx
  cases y with
  | non => cases ry; exact PySem.EqNone.ne_str_none (fin_bl I q (by simp))
  | bl j => cases ry; exact PySem.EqMixed.ne_str_bool (fin_bl I q (by simp))
  | int j => obtain ⟨t', rfl⟩ := ry; exact PySem.EqMixed.ne_str_int (fin_bl I q (by simp))
  | str j => obtain ⟨t', rfl⟩ := ry; exact ne_str (fin_bl I q (congrArg not dec_str))
  | _ => exact absurd (show false = true from hs) Bool.false_ne_true
 | byt i =>
  obtain ⟨t, rfl⟩ := rx
  cases y with
  | byt j => obtain ⟨t', rfl⟩ := ry; exact PySem.W.ne_bytes (fin_bl I q (congrArg not dec_byt))
  | _ => exact absurd (show false = true from hs) Bool.false_ne_true
 | _ => cases y <;> exact absurd (show false = true from hs) Bool.false_ne_true
theorem op_lt : OpR X (compareOp .Lt) (rI0 fun i j => .bl (decide (i < j))) := opB0 fun _ _ _ _ _ _ _ q => lt_int q
theorem op_le : OpR X (compareOp .LtE) (rI0 fun i j => .bl (decide (i <= j))) := opB0 fun _ _ _ _ _ _ _ q => le_int q
theorem nomark (b : Expr) {op : CmpOp} (h : op ≠ .In := by decide) (h2 : op ≠ .NotIn := by decide) : behindInMarks op b = false := by
 have e1 : (op == CmpOp.In) = false := by cases op <;> first | rfl | exact absurd rfl h
 have e2 : (op == CmpOp.NotIn) = false := by cases op <;> first | rfl | exact absurd rfl h2
 cases b <;> simp [behindInMarks, e1, e2]
theorem pe_cmpR {op : CmpOp} {r : R2} (ho : OpR X (compareOp op) r) (ha : PE X a ta) (hb : PE X b tb) (hm : behindInMarks op b = false) : PE X (.Compare a [op] [b] pos) (tOp r ta tb) := by
 intro pins s σ H Q I h
 exact wpAny_Compare1 (binT ha hb I h fun v u s2 x y H2 I2 rx ry q => ho pins s2 σ H2 x y v u Q I2 rx ry q) hm
noncomputable def tTest (t : TE) : TT := fun σ H Q => t σ H fun x H' => IsBI x Q H'
theorem pt_cmpR {op : CmpOp} {r : R2} (ho : OpR X (compareOp op) r) (ha : PE X a ta) (hb : PE X b tb) (hm : behindInMarks op b = false) : PT X (.Compare a [op] [b] pos) (tTest (tOp r ta tb)) := by
 intro pins s σ H Q I h
 refine wpAny_isTrue_Compare1 (thn (ha pins s σ H _ I h) fun v s1 ⟨x, H1, I1, r1, q1⟩ => thn (hb pins s1 σ H1 _ I1 q1) fun u s2 ⟨y, H2, I2, r2, q2⟩ =>
  thn (ho pins s2 σ H2 x y v u _ I2 r1 r2 q2) fun c s3 ⟨z, H3, I3, r3, k, e, q3⟩ => ?_) hm
 subst e
 cases r3
 exact wpAny_truthy_bool ⟨H3, I3, q3⟩
noncomputable def tChain (r r' : R2) (ta tb tc : TE) : TE := fun σ H Q => ta σ H fun x H1 => tb σ H1 fun y H2 => r x y H2 fun z H3 => ∃ k, z = .bl k /\
 (if k = true then tc σ H3 fun w' H4 => r' y w' H4 Q else Q (.bl false) H3)
theorem pt_chain {op op' : CmpOp} {r r' : R2} (ho : OpR X (compareOp op) r) (ho' : OpR X (compareOp op') r') (ha : PE X a ta) (hb : PE X b tb) (hc : PE X c tc)
  (hm : lastMarks [op, op'] [b, c] = false := by with_unfolding_all rfl) : PT X (.Compare a [op, op'] [b, c] pos) (tTest (tChain r r' ta tb tc)) := by
 intro pins s σ H Q I h
 refine isTrue_chain (thn (ha pins s σ H _ I h) fun v s1 ⟨x, H1, I1, r1, q1⟩ => test_link (thn (hb pins s1 σ H1 _ I1 q1) fun u s2 ⟨y, H2, I2, r2, q2⟩ =>
  thn (ho pins s2 σ H2 x y v u _ I2 r1 r2 q2) fun d s3 ⟨z, H3, I3, r3, k, e, q3⟩ => ?_)) hm
 subst e
 cases r3
 refine wpAny_truthy_bool ?_
 cases k with
 | false =>
  obtain ⟨k', e', q'⟩ := q3
  cases e'
  exact ite_ff ⟨H3, I3, q'⟩
 | true =>
  refine ite_tt (test_last (thn (hc pins s3 σ H3 _ I3 q3) fun w' s4 ⟨z', H4, I4, r4, q4⟩ => thn (ho' pins s4 σ H4 y z' u w' _ I4 r2 r4 q4) fun d' s5 zz0 => ?_))
  obtain ⟨z2, H5, I5, r5, k2, e2, q5⟩ := zz0
  subst e2
  cases r5
  exact wpAny_truthy_bool ⟨H5, I5, q5⟩
theorem line63 : (sizeLine : Nat) < 2 ^ 63 := by rw [sizeLine_eq]; decide
theorem vals1 {x : V} {us : List Value} (r : Vals [x] us) : ∃ u, us = [u] /\ RelV x u := by
 cases r with
 | cons r1 r2 => cases r2; exact ⟨_, rfl, r1⟩
theorem vals2 {x y : V} {us : List Value} (r : Vals [x, y] us) : ∃ u w', us = [u, w'] /\ RelV x u /\ RelV y w' := by
 cases r with
 | cons r1 r2 =>
  cases r2 with
  | cons r3 r4 => cases r4; exact ⟨_, _, rfl, r1, r3⟩
theorem call_int1 : CallR X (.type "int") (fun xs H Q => (∃ i, xs = [.int i] /\ Q (.int i) H) \/ ∃ k, xs = [.bl k] /\ Q (.int (if k then 1 else 0)) H) := by
 intro pins s σ H xs us Q I r h
 rcases h with ⟨i, rfl, q⟩ | ⟨k, rfl, q⟩
 ·obtain ⟨u, rfl, t, rfl⟩ := vals1 r
  exact call_int_int ⟨.int i, H, I, ⟨_, rfl⟩, q⟩
 ·obtain ⟨u, rfl, r1⟩ := vals1 r
  cases r1
  exact call_int_bool ⟨.int (if k then 1 else 0), H, I.tok _, ⟨_, rfl⟩, q⟩
end
end L2
namespace L2
open PySem PySem.Spec PyProof.Rows
structure ObjM (h : Heap) (x dx C : Addr) (mA : Str -> Option Value) : Prop where
 obj : h.get? x = some (PySem.W.instObj C dx)
 ns : h.Ns1 dx mA
 ne : dx ≠ x
theorem lookIn_ns {h : Heap} {dx : Addr} {mA : Str -> Option Value} (n : h.Ns1 dx mA) : ∃ od, h.get? dx = some od /\ ∀ name, PySem.W.lookIn name od = some (mA name) := by
 obtain ⟨o, es, ep, ho, hd, hk, _, hm⟩ := n
 refine ⟨o, ho, fun name => ?_⟩
 have e := hm name
 unfold nsFind findBy at e
 rw [<- Array.find?_toList] at e
 unfold PySem.W.lookIn
 rw [hd]
 dsimp only
 split
 ·rename_i y q
  rw [q] at e
  exact congrArg some e
 ·rename_i q
  rw [q] at e
  have a : es.toList.any (·.refKey) = false := by
   rw [List.any_eq_false]
   intro y hy
   obtain ⟨z, t, hkey⟩ := hk y (Array.mem_toList_iff.mp hy)
   simp [DictEntry.refKey, hkey]
  have a' : ¬ es.toList.any (·.refKey) = true := by rw [a]; exact Bool.false_ne_true
  rw [if_neg a']
  exact congrArg some e
theorem ObjM.look {h : Heap} {x dx C : Addr} {mA : Str -> Option Value} (I : ObjM h x dx C mA) : ∃ od, PySem.W.InstAt h x (PySem.W.instObj C dx) C (some od) /\ ∀ name, PySem.W.lookIn name od = some (mA name) :=
 let ⟨od, ho, hl⟩ := lookIn_ns I.ns
 ⟨od, ⟨I.obj, rfl, rfl, ho⟩, hl⟩
section
variable {prog : Program} {w : World} {A : Around} {E : Value -> Shared -> Prop} {s : Shared} {K : PySem.W.Frag} {x dx C f : Addr} {mA : Str -> Option Value} {name : Str} {v : Value}
end
section
variable {P : Program} {w : World} {H H' : Hp} {h h' : Heap} {a C dx : Addr} {fs fs' : List (Str × V)}
theorem ins_get (hok : HOk P w H h) (e : H a = some (.ins C dx fs)) : ∃ mA, ObjM h a dx C mA /\ (∀ f, RelO (fs.lookup f) (mA f)) /\ PySem.Within mA (fs.map (·.1)) /\ fs.length <= 1000 /\ H dx = some (.own a) := by
 obtain ⟨d, z, ne, ob, mA, n, r, q⟩ := (show ObjOk P w H h a (.ins C dx fs) from hok a _ e)
 exact ⟨mA, ⟨ob, n, ne⟩, r, q, z, d⟩
end
structure Cls (K : PySem.W.Frag) (C : Addr) : Prop where
 pg : PySem.W.plainGet K C Str.empty = true
 hd : PySem.W.hasDictIn K C = true
 po : PySem.W.plainOver K C = true
 sa : PySem.W.findIn K (.ref C) "__setattr__" = some (some (.builtin "object.__setattr__"))
theorem Cls.get {K : PySem.W.Frag} {C : Addr} (c : Cls K C) (f : Str) : PySem.W.plainGet K C f = true := c.pg
section
variable {X : Cx} {pins : List (Addr × Obj)} {σ : St} {H : Hp} {s : Shared} {a C dx : Addr} {fs : List (Str × V)} {f : Str} {v : V} {A : Around} {E : Value -> Shared -> Prop}
end
section
variable {X : Cx} {o e value : Expr} {f : Str} {pos pos' tpos : Pos} {ta tv : TE}
end
section
variable {X : Cx} {pins : List (Addr × Obj)} {σ : St} {H : Hp} {s : Shared} {A : Around} {E : Value -> Shared -> Prop} {Q : Value -> Shared -> Prop} {c : Value} {b : Bool}
inductive TyOf (K : PySem.W.Frag) (H : Hp) : V -> Value -> Prop where
 | non : TyOf K H .non (.type "NoneType")
 | bl (x : Bool) : TyOf K H (.bl x) (.type "bool")
 | int (i : Int) : TyOf K H (.int i) (.type "int")
 | str (x : Str) : TyOf K H (.str x) (.type "str")
 | flt (x : UInt64) : TyOf K H (.flt x) (.type "float")
 | lst {a : Addr} {xs : List V} (e : H a = some (.lst xs)) : TyOf K H (.ref a) (.type "list")
 | frz {a : Addr} {o : Obj} {xs : List V} (e : H a = some (.frz o (.lst xs))) : TyOf K H (.ref a) (.type "list")
 | tup {a : Addr} {xs : List V} (e : H a = some (.tup xs)) : TyOf K H (.ref a) (.type "tuple")
 | dK {a : Addr} {kvs : List (Key × V)} (e : H a = some (.dK kvs)) : TyOf K H (.ref a) (.type "dict")
 | dT {a : Addr} {kvs : List (List Key × V)} (e : H a = some (.dT kvs)) : TyOf K H (.ref a) (.type "dict")
 | ins {a C dx : Addr} {fs : List (Str × V)} (e : H a = some (.ins C dx fs)) (cl : Cls K C) (ha : PySem.W.findIn K (.ref C) "__class__" = some (some (.builtin "object.__class__")))
   (hn : PySem.W.specialIn K (.builtin "object.__class__") "__get__" = some (some (.builtin "getset_descriptor.__get__"))) (htk : PySem.W.takesIn K (.builtin "object.__class__") = some true)
   (hm : PySem.W.mroIn K C (.type "object") = some true) : TyOf K H (.ref a) (.ref C)
theorem isinst_ok {x : V} {u t : Value} (I : Inv X pins σ H s) (rx : RelV x u) (ty : TyOf X.K H x t) (e : PySem.W.kitOne X.K t c = some b) (h : ∀ tk, Q (.bool b) { s with toks := tk }) :
  wpAny (model X.prog X.w) A (call (.builtin "isinstance") [u, c]) Q E s := by
 cases ty with
 | non => cases (show u = Value.none from rx); exact PySem.W.kia_one PySem.W.kitx_none I.kIn True.intro e (fun z => nomatch z) h
 | bl y => cases (show u = Value.bool y from rx); exact PySem.W.kia_one PySem.W.kitx_bool I.kIn True.intro e (fun z => nomatch z) h
 | int i => obtain ⟨t, q⟩ := (show ∃ t, u = Value.int i t from rx); cases q; exact PySem.W.kia_one PySem.W.kitx_int I.kIn True.intro e (fun z => nomatch z) h
 | str y => obtain ⟨t, q⟩ := (show ∃ t, u = Value.str y t from rx); cases q; exact PySem.W.kia_one PySem.W.kitx_str I.kIn True.intro e (fun z => nomatch z) h
 | flt y => obtain ⟨t, q⟩ := (show ∃ t, u = Value.float y t from rx); cases q; exact PySem.W.kia_one PySem.W.kitx_float I.kIn True.intro e (fun z => nomatch z) h
 | @lst a xs ea =>
  cases (show u = Value.ref a from rx)
  obtain ⟨_, _, n, _, h1⟩ := (show ObjOk X.prog X.w H s.heap a (.lst xs) from I.hok a _ ea)
  exact PySem.W.kia_one PySem.W.kitx_list I.kIn ⟨_, h1, rfl⟩ e (fun z => nomatch z) h
 | @frz a ob xs ea =>
  cases (show u = Value.ref a from rx)
  obtain ⟨_, _, _, n, _, h1⟩ := (show ObjOk X.prog X.w H s.heap a (.frz ob (.lst xs)) from I.hok a _ ea)
  exact PySem.W.kia_one PySem.W.kitx_list I.kIn ⟨_, h1, rfl⟩ e (fun z => nomatch z) h
 | @tup a xs ea =>
  cases (show u = Value.ref a from rx)
  obtain ⟨_, _, _, p⟩ := (show ObjOk X.prog X.w H s.heap a (.tup xs) from I.hok a _ ea)
  obtain ⟨o, h1, h2, _⟩ := p
  exact PySem.W.kia_one PySem.W.kitx_tuple I.kIn ⟨o, h1, h2⟩ e (fun z => nomatch z) h
 | @dK a kvs ea =>
  cases (show u = Value.ref a from rx)
  obtain ⟨_, _, vs, _, p⟩ := (show ObjOk X.prog X.w H s.heap a (.dK kvs) from I.hok a _ ea)
  obtain ⟨o, es, ep, h1, h2, _⟩ := p
  exact PySem.W.kia_one PySem.W.kitx_dict I.kIn ⟨o, h1, h2.1⟩ e (fun z => nomatch z) h
 | @dT a kvs ea =>
  cases (show u = Value.ref a from rx)
  obtain ⟨_, _, xs, _, o, es, ep, h1, h2, _⟩ := (show ObjOk X.prog X.w H s.heap a (.dT kvs) from I.hok a _ ea)
  exact PySem.W.kia_one PySem.W.kitx_dict I.kIn ⟨o, h1, h2.1⟩ e (fun z => nomatch z) h
 | @ins a C dx fs ea cl ha hn htk hm =>
  cases (show u = Value.ref a from rx)
  obtain ⟨mA, O, _⟩ := ins_get I.hok ea
  obtain ⟨od, J, _⟩ := O.look
  exact PySem.W.kia_one (PySem.W.kitx_own (cl.get _) cl.hd ha hn htk hm) I.kIn J e (fun z => nomatch z) h
end
end L2
namespace L2
open PySem PySem.Spec PyProof.Rows
structure Room (k : Nat) (A : Around) : Prop where
 hd : A.handled = none
 dp : A.depth + 3 * k + 5 < recursionLimit
 un : A.units + 16 * k + 200 < cLine
theorem Room.mono {j k : Nat} {A : Around} (r : Room k A) (h : j <= k) : Room j A := ⟨r.hd, by have := r.dp; omega, by have := r.un; omega⟩
theorem Room.deeper {k : Nat} {A : Around} (r : Room (k + 1) A) (env : Env) : Room k (A.deeper env) :=
 ⟨r.hd, by have := r.dp; show A.depth + 1 + 3 * k + 5 < _; exact Om.k201 this, by have := r.un; show A.units + 3 + 16 * k + 200 < _; exact Om.k200 this⟩
theorem Room.depth {k : Nat} {A : Around} (r : Room k A) : A.depth < recursionLimit := by have := r.dp; omega
noncomputable def tNil : TA := fun _ H Q => Q [] H
noncomputable def tCons (ta : TE) (tr : TA) : TA := fun σ H Q => ta σ H fun x H1 => tr σ H1 fun xs H2 => Q (x :: xs) H2
section
variable {X : Cx} {e : Expr} {es : List Expr} {te : TE} {t : TA} {pos : Pos}
theorem pa_nil : PA X [] tNil := fun _ _ _ _ H Q I h => Calls.spliced_nil ⟨[], H, I, .nil, h⟩
theorem pa_cons (ha : PE X e te) (hr : PA X es t) (hs : starEach (e :: es) X.env = (false, eval e X.env) :: starEach es X.env := by rfl) : PA X (e :: es) (tCons te t) := by
 intro pos pins s σ H Q I h
 rw [hs]
 show wpAny _ _ (spliced ((false, eval e X.env) :: backTo pos (starEach es X.env))) _ _ s
 refine Calls.spliced_cons (thn (ha pins s σ H _ I h) fun u s1 zz0 => ?_)
 obtain ⟨x, H1, I1, r1, q1⟩ := zz0
 exact thn (hr pos pins s1 σ H1 _ I1 q1) fun us s2 ⟨xs, H2, I2, r2, q2⟩ => ⟨x :: xs, H2, I2, .cons r1 r2, q2⟩
noncomputable def tTup (t : TA) : TE := fun σ H Q => t σ H fun xs H1 => xs.length <= sizeLine /\ ∀ p, H1 p = none -> Q (.ref p) (upd H1 p (.tup xs))
noncomputable def tLst (t : TA) : TE := fun σ H Q => t σ H fun xs H1 => xs.length <= sizeLine /\ ∀ p, H1 p = none -> Q (.ref p) (upd H1 p (.lst xs))
theorem pe_tup {x1} (h : PA X es t) : PE X (.Tuple es x1 pos) (tTup t) := by
 intro pins s σ H Q I hq
 refine wpAny_Tuple_spliced (thn (h pos pins s σ H _ I hq) fun us s1 ⟨xs, H1, I1, r, z, q⟩ => ⟨by rw [<- r.length]; exact z, ?_⟩)
 have hf : H1 s1.heap.objs.size = none := I1.hok.fresh (Nat.le_refl _)
 refine ⟨.ref s1.heap.objs.size, upd H1 s1.heap.objs.size (.tup xs), I1.laid (t' := s1.toks) (fun b u e => Heap.get?_push_of_some _ e) (Nat.le_refl _) ?_, rfl, q _ hf⟩
 exact ⟨z, us, r, ⟨_, Heap.get?_push_size _ rfl, rfl, _, rfl⟩⟩
theorem pe_lst (h : PA X es t) : PE X (.List es pos) (tLst t) := by
 intro pins s σ H Q I hq
 refine wpAny_List_spliced (thn (h pos pins s σ H _ I hq) fun us s1 ⟨xs, H1, I1, r, z, q⟩ => ⟨by rw [<- r.length]; exact z, ?_⟩)
 have hf : H1 s1.heap.objs.size = none := I1.hok.fresh (Nat.le_refl _)
 refine ⟨.ref s1.heap.objs.size, upd H1 s1.heap.objs.size (.lst xs), I1.laid (t' := s1.toks) (fun b u e => Heap.get?_push_of_some _ e) (Nat.le_refl _) ?_, rfl, q _ hf⟩
 exact ⟨z, us, 0, r, Heap.get?_push_size _ rfl⟩
end
noncomputable abbrev Sp := List V -> Hp -> VK -> XK -> Prop
noncomputable abbrev CXT := List Env -> Hp -> Shared -> XK -> Value -> Shared -> Prop
structure Env0 (P : Program) (w : World) (K : PySem.W.Frag) (mg : Str -> Option Value) (base : Heap) (A : Around) (outer : List Env) (s : Shared) (H : Hp) : Prop where
 frames : A.frames = some outer
 mod : Mod K mg base
 bs : ∀ b o, base.get? b = some o -> s.heap.get? b = some o /\ H b = none
 bsz : base.objs.size <= s.heap.objs.size
 funs : s.heap.FunFrames base outer
 frf : ∀ b ∈ frs outer, H b = none
 hok : HOk P w H s.heap
 bare : AllBare s.gens
noncomputable def CE (outer : List Env) (P : Program) (w : World) (H : Hp) (s : Shared) (Q : VK) (u : Value) (s' : Shared) : Prop :=
 ∃ v H', s'.os = s.os /\ AllBare s'.gens /\ Un (frs outer) [] H H' s.heap s'.heap /\ HOk P w H' s'.heap /\ RelV v u /\ Q v H'
noncomputable def CR (CX : CXT) (outer : List Env) (P : Program) (w : World) (H : Hp) (s : Shared) (Q : VK) (E : XK) (r : Result) (s' : Shared) : Prop :=
 match r with
 | .ok (.ret u) => CE outer P w H s Q u s'
 | .ok _ => False
 | .error e => CX outer H s E e s'
structure FnOk (P : Program) (w : World) (K : PySem.W.Frag) (mg : Str -> Option Value) (base : Heap) (CX : CXT) (k : Nat) (f : Addr) (fd : FuncData) (ps : List Str) (sp : Sp) : Prop where
 len : ∀ vs H Q E, sp vs H Q E -> vs.length = ps.length
 run : ∀ (A : Around) (outer : List Env) (s : Shared) (H : Hp) (args : Args) (us : List Value) (vs : List V) (Q : VK) (E : XK), Room k A -> Env0 P w K mg base A outer s H -> BindsTo s fd args (ps.zip us) -> Vals vs us -> sp vs H Q E ->
  codeAny (model P w) A (.call (.ref f) args) (CR CX outer P w H s Q E) s
theorem FnOk.mono {P : Program} {w : World} {K : PySem.W.Frag} {mg : Str -> Option Value} {base : Heap} {CX : CXT} {j k : Nat} {f : Addr} {fd : FuncData} {ps : List Str} {sp : Sp} (F : FnOk P w K mg base CX j f fd ps sp) (h : j <= k) :
  FnOk P w K mg base CX k f fd ps sp := ⟨F.len, fun A outer s H args us vs Q E hr => F.run A outer s H args us vs Q E (hr.mono h)⟩
section
variable {X : Cx} {pins : List (Addr × Obj)} {σ : St} {H : Hp} {s s' : Shared}
theorem Inv.env0 (I : Inv X pins σ H s) : Env0 X.prog X.w X.K X.mg X.base X.A X.stack s H :=
 ⟨I.ok.frames, I.ok.mod, I.bs, Nat.le_trans I.ok.bsz I.sz, I.stack, I.stkFree, I.hok, I.bare⟩
theorem Inv.after {Q : VK} {u : Value} (I : Inv X pins σ H s) (h : CE X.stack X.prog X.w H s Q u s') : EP X pins σ Q u s' := by
 obtain ⟨v, H', os, bare, un, hok, r, q⟩ := h
 obtain ⟨hh, g, d, t, os'⟩ := s'
 obtain rfl : os' = s.os := os
 exact ⟨v, H', I.call (h' := hh) (g' := g) (d' := d) (t' := t) (ch := []) un hok bare (fun b z => absurd z (by simp)), r, q⟩
end
noncomputable def tCall (sp : Sp) (dvs : List V) (E : XK) (t : TA) : TE := fun σ H Q => t σ H fun vs H1 => sp (vs ++ dvs) H1 Q E
noncomputable def Binds (K : PySem.W.Frag) (fd : FuncData) (ps : List Str) (ds : List Value) : Prop :=
 ∀ (s : Shared) (us : List Value), K.In s.heap -> (us ++ ds).length = ps.length -> BindsTo s fd ⟨us, []⟩ (ps.zip (us ++ ds))
theorem Binds.all {K : PySem.W.Frag} {fd : FuncData} {ps : List Str} (h : ∀ us : List Value, us.length = ps.length -> bindArgs fd ⟨us, []⟩ = pure (ps.zip us)) : Binds K fd ps [] := fun s us _ hl => by
 rw [List.append_nil] at hl ⊢
 exact .of_eq (h us hl)
noncomputable def Passes (CX : CXT) (X : Cx) (E : XK) : Prop := ∀ (pins : List (Addr × Obj)) (σ : St) (H : Hp) (s : Shared) (e : Value) (s' : Shared), Inv X pins σ H s -> CX X.stack H s E e s' -> X.xe e s'
section
variable {X : Cx} {CX : CXT} {k : Nat} {f C : Addr} {fd : FuncData} {ps : List Str} {sp : Sp} {dvs : List V} {ds : List Value} {E : XK} {x m : Str} {p pos apos : Pos} {e o : Expr} {es : List Expr} {ta : TE} {t : TA}
theorem run_fn {pins : List (Addr × Obj)} {σ : St} {H : Hp} {s : Shared} {Q : VK} {us : List Value} {vs : List V} (F : FnOk X.prog X.w X.K X.mg X.base CX k f fd ps sp) (hr : Room k X.A) (hb : Binds X.K fd ps ds) (hd : Vals dvs ds) (hx : Passes CX X E)
  (I : Inv X pins σ H s) (r : Vals vs us) (h : sp (vs ++ dvs) H Q E) : wpAny (model X.prog X.w) X.A (call (.ref f) us) (EP X pins σ Q) X.xe s := by
 have r2 : Vals (vs ++ dvs) (us ++ ds) := r.append hd
 have hl : (us ++ ds).length = ps.length := by rw [<- r2.length]; exact F.len _ _ _ _ h
 refine wpAny_call (codeAny_mono (F.run X.A X.stack s H ⟨us, []⟩ (us ++ ds) (vs ++ dvs) Q E hr I.env0 (hb s us I.kIn hl) r2 h) fun r s' hq => ?_)
 cases r with
 | error e => exact hx pins σ H s e s' I hq
 | ok fl =>
  cases fl with
  | ret u => exact I.after hq
  | next => exact False.elim hq
  | brk => exact False.elim hq
  | cont => exact False.elim hq
theorem pe_call (F : FnOk X.prog X.w X.K X.mg X.base CX k f fd ps sp) (hr : Room k X.A) (hg : Gl X x) (hm : X.mg x = some (.ref f)) (hk : PySem.W.keepIn X.K (.ref f) = true) (hb : Binds X.K fd ps ds) (hd : Vals dvs ds) (hx : Passes CX X E)
  (ha : PA X (e :: es) t) (hdb : (x == ("__debug__" : Str)) = false := by decide) (he : starEach (e :: es) X.env = (false, eval e X.env) :: starEach es X.env := by rfl) (hpl : (backTo pos (starEach es X.env)).any (·.1) = false := by rfl) :
  PE X (.Call (.Name x p) (e :: es) [] pos) (tCall sp dvs E t) := by
 intro pins s σ H Q I h
 refine wpAny_Call_Name_kw (ld_glob I hg hm ?_ hdb)
 refine PySem.W.callWith_K (h₀ := X.base) I.ok.mod.kin hk (thn (ha pos pins s σ H _ I h) fun us s1 ⟨vs, H1, I1, r, q⟩ => ⟨I1.kIn, ?_⟩) he hpl
 exact run_fn F hr hb hd hx I1 r q
end
section
variable {X : Cx} {CX : CXT} {k : Nat} {f C : Addr} {fd : FuncData} {ps ks : List Str} {sp : Sp} {E : XK} {x m : Str} {p pos apos kpos : Pos} {e o : Expr} {es : List Expr} {kws : List Keyword} {te ta : TE} {t tk : TA} {nm : Option Str}
variable {g : List Value -> List Value -> List Value} {gV : List V -> List V -> List V}
end
structure FnScope (N P : List Str) (sc : Scope) : Prop where
 kind : sc.kind = .function
 co : sc.isCoroutine = false
 gen : sc.isGenerator = false
 nd : N.Nodup
 pre : N.take P.length = P
 par : ∀ x ∈ P, sc.names.lookup x = some .local \/ sc.names.lookup x = some .cell
 nofree : ∀ y ∈ sc.names, y.2 ≠ .free
theorem bindL_out {kindOf : Str -> Option NameKind} {x : Str} : ∀ {binds : List (Str × Value)} {m : Str -> Option Value}, (∀ v, (x, v) ∉ binds) -> bindL kindOf binds m x = m x
 | [], _, _ => rfl
 | (n, v) :: r, m, h => by
  unfold bindL
  rw [bindL_out fun w hw => h w (List.mem_cons_of_mem _ hw)]
  split
  ·have : x ≠ n := by rintro rfl; exact h v List.mem_cons_self
   simp [this]
  ·rfl
theorem bindC_out {kindOf : Str -> Option NameKind} {x : Str} : ∀ {binds : List (Str × Value)} {m : Str -> Option Value}, (∀ v, (x, v) ∉ binds) -> bindC kindOf binds m x = m x
 | [], _, _ => rfl
 | (n, v) :: r, m, h => by
  unfold bindC
  rw [bindC_out fun w hw => h w (List.mem_cons_of_mem _ hw)]
  split
  ·rfl
  ·have : x ≠ n := by rintro rfl; exact h v List.mem_cons_self
   simp [this]
theorem bindL_get {kindOf : Str -> Option NameKind} {x : Str} {v : Value} : ∀ {P : List Str} {vs : List Value} {i : Nat} {m : Str -> Option Value}, P.Nodup -> P[i]? = some x -> vs[i]? = some v -> kindOf x = some .local ->
  bindL kindOf (P.zip vs) m x = some v
 | [], _, _, _, _, h, _, _ => by simp at h
 | _ :: _, [], _, _, _, _, h, _ => by simp at h
 | p :: P, w :: vs, 0, m, nd, h1, h2, hk => by
  simp at h1 h2; subst h1; subst h2
  show bindL kindOf ((p, w) :: P.zip vs) m p = _
  unfold bindL
  rw [bindL_out fun v hv => (List.nodup_cons.mp nd).1 (List.of_mem_zip hv).1, if_pos hk]
  simp
 | p :: P, w :: vs, i + 1, m, nd, h1, h2, hk => by
  show bindL kindOf ((p, w) :: P.zip vs) m x = _
  unfold bindL
  exact bindL_get (i := i) (List.nodup_cons.mp nd).2 (by simpa using h1) (by simpa using h2) hk
theorem bindC_get {kindOf : Str -> Option NameKind} {x : Str} {v : Value} : ∀ {P : List Str} {vs : List Value} {i : Nat} {m : Str -> Option Value}, P.Nodup -> P[i]? = some x -> vs[i]? = some v -> kindOf x ≠ some .local ->
  bindC kindOf (P.zip vs) m x = some v
 | [], _, _, _, _, h, _, _ => by simp at h
 | _ :: _, [], _, _, _, _, h, _ => by simp at h
 | p :: P, w :: vs, 0, m, nd, h1, h2, hk => by
  simp at h1 h2; subst h1; subst h2
  show bindC kindOf ((p, w) :: P.zip vs) m p = _
  unfold bindC
  rw [bindC_out fun v hv => (List.nodup_cons.mp nd).1 (List.of_mem_zip hv).1, if_neg hk]
  simp
 | p :: P, w :: vs, i + 1, m, nd, h1, h2, hk => by
  show bindC kindOf ((p, w) :: P.zip vs) m x = _
  unfold bindC
  exact bindC_get (i := i) (List.nodup_cons.mp nd).2 (by simpa using h1) (by simpa using h2) hk
noncomputable def start (N : List Str) (vs : List V) : St := vs.map some ++ List.replicate (N.length - vs.length) none
noncomputable def cxOf (CX : CXT) (P : Program) (w : World) (K : PySem.W.Frag) (mg : Str -> Option Value) (base : Heap) (N : List Str) (qual : Str) (scope : Scope) (f : Addr) (cd : Value) (A : Around) (outer : List Env) (s : Shared) (H : Hp) (E : XK) : Cx where
 prog := P
 w := w
 K := K
 mg := mg
 base := base
 A := A.deeper (envOfC qual scope s.heap.objs.size f cd)
 N := N
 s₀ := s
 H₀ := H
 env := envOfC qual scope s.heap.objs.size f cd
 outer := outer
 stack := envOfC qual scope s.heap.objs.size f cd :: outer
 ex := []
 calm := true
 fn := fun _ => true
 pn := []
 xe := fun e s' => wpAny (model P w) (A.deeper (envOfC qual scope s.heap.objs.size f cd)) (leaving (envOfC qual scope s.heap.objs.size f cd) e) (fun _ s'' => CX outer H s E e s'') (fun e' s'' => CX outer H s E e' s'') s'
theorem cell_has {sc : Scope} {n : Nat} {x : Str} (h : sc.names.lookup x = some .cell) : ∃ c, (cellsFrom n sc.names []).lookup x = some c := by
 have q := PySem.W.cellsFrom_some sc.names n [] (.inl h)
 exact Option.isSome_iff_exists.mp q
theorem inv_start {CX : CXT} {P : Program} {w : World} {K : PySem.W.Frag} {mg : Str -> Option Value} {base : Heap} {N ps : List Str} {qual : Str} {scope : Scope} {f : Addr} {cd : Value} {A : Around} {outer : List Env} {s s1 : Shared} {H : Hp} {E : XK} {us : List Value} {vs : List V}
  (S : FnScope N ps scope) (hd : A.handled = none) (e0 : Env0 P w K mg base A outer s H) (hl : vs.length = ps.length) (r : Vals vs us)
  (x : InCallC s s.heap.objs.size (bindL (envOfC qual scope s.heap.objs.size f cd).kindOf (ps.zip us) fun _ => none) (cellsFrom (s.heap.objs.size + 1) scope.names []) (bindC (envOfC qual scope s.heap.objs.size f cd).kindOf (ps.zip us) fun _ => none) s1) :
  Inv (cxOf CX P w K mg base N qual scope f cd A outer s H E) [] (start N vs) H s1 := by
 have hpl : ps.length <= N.length := by have := congrArg List.length S.pre; rw [List.length_take] at this; omega
 obtain ⟨h1, tk, rfl, hk⟩ := x.done
 have noA : ∀ b : Addr, b ∉ (cxOf CX P w K mg base N qual scope f cd A outer s H E).ex := fun b z => absurd (show b ∈ ([] : List Addr) from z) (by simp)
 refine ⟨⟨e0.mod, S.kind, rfl, rfl, Nat.le_refl _, fun y z c h1 h2 => ?_, fun y hy => ?_, fun y c _ h => ?_, fun _ => hd, Around.frames_deeper e0.frames, .inr ⟨rfl, rfl⟩, fun b z => absurd z (noA b), e0.bs, e0.bsz, fun b _ _ => noA b, fun b z => absurd z (noA b), e0.funs, e0.frf⟩,
  rfl, e0.bare, Un.kept hk, ⟨_, x.toInCall.ns, fun i y v h1 h2 h3 => ?_⟩, fun y c h => ⟨_, x.cell y c h⟩, e0.hok.fresh (Nat.le_refl _), fun y c h => ?_, fun p hp => absurd (show p ∈ ([] : List (Addr × Obj)) from hp) (by simp), e0.hok.kept hk, ?_⟩
 ·exact name_of_addr x.apart (PySem.mem_of_lookup h1) (PySem.mem_of_lookup h2)
 ·have hy : scope.names.lookup y = some .cell \/ scope.names.lookup y = some .free := hy
  rcases hy with hy | hy
  ·exact cell_has hy
  ·exact absurd rfl (S.nofree _ (PySem.mem_of_lookup hy))
 ·exact Nat.le_of_lt (x.above y c (PySem.mem_of_lookup h))
 ·have hi : i < vs.length := by
   unfold start at h2
   by_cases hi : i < vs.length
   ·exact hi
   ·rw [List.getElem?_append_right (by simpa using hi)] at h2
    rw [List.getElem?_replicate] at h2
    split at h2 <;> cases h2
  have ha : vs[i]? = some v := by
   unfold start at h2
   rw [List.getElem?_append_left (by simpa using hi), List.getElem?_map] at h2
   cases e : vs[i]? with
   | none => rw [e] at h2; cases h2
   | some a => rw [e] at h2; cases h2; rfl
  obtain ⟨u, hu, rv⟩ := r.get ha
  have hp : ps[i]? = some y := by
   rw [<- S.pre, List.getElem?_take_of_lt (by exact Om.a2 ‹_› ‹_›)]; exact h1
  have ndP : ps.Nodup := by rw [<- S.pre]; exact S.nd.sublist (List.take_sublist _ _)
  refine ⟨u, rv, ?_⟩
  rcases S.par y (List.mem_of_getElem? hp) with k | k
  ·exact .inl ⟨k, bindL_get ndP hp hu k⟩
  ·obtain ⟨c, e⟩ := cell_has (n := s.heap.objs.size + 1) k
   refine .inr ⟨.inl k, c, e, ?_⟩
   have q := x.cell y c e
   rw [bindC_get ndP hp hu (by show scope.names.lookup y ≠ _; rw [k]; decide)] at q
   exact q
 ·exact e0.hok.fresh (Nat.le_of_lt (x.above y c (PySem.mem_of_lookup h)))
 ·unfold start
  show _ = N.length
  rw [List.length_append, List.length_map, List.length_replicate]
  exact Om.k199 hl hpl
theorem fn_of {CX : CXT} {P : Program} {w : World} {K : PySem.W.Frag} {mg : Str -> Option Value} {base : Heap} {k : Nat} {f : Addr} {name qual : Str} {params : Arguments} {body : List Stmt} {scope : Scope} {dV kV doc pm cdv ct oc : Value} {an od : Option Addr}
  {osl : Array (Option Value)} {N ps : List Str} {sp : Sp} (lk : K.lookup f = some ⟨oc, od, .func (PySem.W.fnOf name qual params body scope dV kV doc pm an cdv ct), osl⟩) (hcd : PySem.W.codeIn K cdv qual = true) (S : FnScope N ps scope)
  (len : ∀ vs H Q E, sp vs H Q E -> vs.length = ps.length)
  (hbody : ∀ (A : Around) (outer : List Env) (s : Shared) (H : Hp) (vs : List V) (Q : VK) (E : XK), Room k (A.deeper (envOfC qual scope s.heap.objs.size f cdv)) -> sp vs H Q E ->
   ∃ t, PSs (cxOf CX P w K mg base N qual scope f cdv A outer s H E) body t /\ t { nx := fun _ H' => Q .non H', rt := Q } (start N vs) H) :
  FnOk P w K mg base CX (k + 1) f (PySem.W.fnOf name qual params body scope dV kV doc pm an cdv ct) ps sp := by
 refine ⟨len, fun A outer s H args us vs Q E hr e0 hb r hsp => ?_⟩
 have hl := len _ _ _ _ hsp
 have KX : K.In s.heap := e0.mod.kin.keeps fun b o e => (e0.bs b o e).1
 have lim : s.heap.NoLimit := e0.mod.nolimit.keeps fun b o e => (e0.bs b o e).1
 have hkind : ∀ y ∈ ps.zip us, scope.names.lookup y.1 = some .local \/ (scope.names.lookup y.1 = some .cell /\ ((cellsFrom (s.heap.objs.size + 1) scope.names []).lookup y.1).isSome = true) := fun ⟨n, v⟩ hy => by
  rcases S.par n (List.of_mem_zip hy).1 with q | q
  ·exact .inl q
  ·exact .inr ⟨q, PySem.W.cellsFrom_some _ _ _ (.inl q)⟩
 refine codeAny_call_function hr.depth (KX _ _ lk) rfl S.co S.gen rfl (PySem.W.codeRec_of KX hcd) (hb _ _ _ _ ?_)
 refine wpAny_newFunctionEnv_cells S.kind hkind fun env he s1 x => ?_
 subst he
 refine ⟨lim.keeps x.toInCall.keep, codeAny_func ?_⟩
 obtain ⟨t, ht, hq⟩ := hbody A outer s H vs Q E (hr.deeper _) hsp
 have I : Inv (cxOf CX P w K mg base N qual scope f cdv A outer s H E) [] (start N vs) H s1 := inv_start S hr.hd e0 hl r x
 refine wpAny_mono (ht [] s1 (start N vs) H _ I hq) (fun fl s' hs => ?_) fun e s' hs => hs
 have fin : ∀ {σ' : St} {H' : Hp} {v : V} {u : Value}, Inv (cxOf CX P w K mg base N qual scope f cdv A outer s H E) [] σ' H' s' -> RelV v u -> Q v H' -> CE outer P w H s Q u s' :=
  fun {σ' H' v u} J rv q => ⟨v, H', J.os, J.bare, J.base, J.hok, rv, q⟩
 cases fl with
 | ret u =>
  obtain ⟨v, σ', H', J, rv, q⟩ := hs
  exact fin J rv q
 | next =>
  obtain ⟨σ', H', J, q⟩ := hs
  exact fin (v := V.non) (u := Value.none) J rfl q
 | brk =>
  obtain ⟨_, _, _, q⟩ := hs
  exact False.elim q
 | cont =>
  obtain ⟨_, _, _, q⟩ := hs
  exact False.elim q
end L2
namespace L2
open PySem PySem.Spec PyProof.Rows
section
variable {X : Cx} {x : Str} {p pos : Pos} {e : Expr} {es : List Expr} {t : TA} {id T : String} {r : List V -> Hp -> VK -> Prop}
noncomputable def tCB (r : List V -> Hp -> VK -> Prop) (t : TA) : TE := fun σ H Q => t σ H fun vs H1 => r vs H1 Q
theorem pe_callB (hc : CallR X (.builtin id) r) (hg : Gl X x) (hm : X.mg x = none) (hv : bootBuiltins x = some (.builtin id)) (ha : PA X (e :: es) t) (hn : x ≠ "__name__" := by decide) (hdb : (x == ("__debug__" : Str)) = false := by decide)
  (he : starEach (e :: es) X.env = (false, eval e X.env) :: starEach es X.env := by rfl) (hpl : (backTo pos (starEach es X.env)).any (·.1) = false := by rfl) : PE X (.Call (.Name x p) (e :: es) [] pos) (tCB r t) := by
 intro pins s σ H Q I h
 refine wpAny_Call_Name_kw (ld_blt I hg hm hv ?_ hn hdb)
 exact PyProof.Rows.callWith_builtin1 (thn (ha pos pins s σ H _ I h) fun us s1 zz0 => by obtain ⟨vs, H1, I1, r1, q1⟩ := zz0; exact hc pins s1 σ H1 vs us Q I1 r1 q1) he hpl
theorem pe_callTy (hc : CallR X (.type T) r) (hg : Gl X x) (hm : X.mg x = none) (hv : bootBuiltins x = some (.type T)) (ha : PA X (e :: es) t) (hn : x ≠ "__name__" := by decide) (hdb : (x == ("__debug__" : Str)) = false := by decide)
  (he : starEach (e :: es) X.env = (false, eval e X.env) :: starEach es X.env := by rfl) (hpl : (backTo pos (starEach es X.env)).any (·.1) = false := by rfl) : PE X (.Call (.Name x p) (e :: es) [] pos) (tCB r t) := by
 intro pins s σ H Q I h
 refine wpAny_Call_Name_kw (ld_blt I hg hm hv ?_ hn hdb)
 exact PyProof.Rows.callWith_type1 (thn (ha pos pins s σ H _ I h) fun us s1 zz0 => by obtain ⟨vs, H1, I1, r1, q1⟩ := zz0; exact hc pins s1 σ H1 vs us Q I1 r1 q1) he hpl
end
end L2
namespace HT
open PySem PyProof.Rows
section
open PySem.SeqAt
open PySem.AutoSeq1 (wpAny_loadPart')
open PySem.MeetsSeq PySem.MeetsSeq2 PySem.MeetsSeq3
end
section
variable {prog : Program} {w : World} {A : Around} {E : Value -> Shared -> Prop} {s : Shared}
theorem cat_tup {t b : Addr} {vs ws : List Value} {Q : Value -> Shared -> Prop} (ht : IsTup s.heap t vs.toArray) (hb : IsTup s.heap b ws.toArray) (hv : vs ≠ [])
  (h1 : ws = [] -> Q (.ref t) s) (h2 : ws ≠ [] -> Q (.ref s.heap.objs.size) { s with heap := s.heap.push { cls := .type "tuple", data := .seq (vs ++ ws).toArray } })
  (hsz : vs.length + ws.length <= sizeLine) : wpAny (model prog w) A (binaryOp .Add (.ref t) (.ref b)) Q E s := by
 obtain ⟨⟨cls, dd, data, sl⟩, ho, hc, n, hd⟩ := id ht
 obtain ⟨⟨cls2, dd2, data2, sl2⟩, ho2, hc2, n2, hd2⟩ := id hb
 simp only at hc hd hc2 hd2
 subst hc hd hc2 hd2
 have e : vs.toArray ++ ws.toArray = (vs ++ ws).toArray := by simp
 by_cases hw : ws = []
 ·exact concat_meets ⟨_, ho, rfl⟩ ⟨_, ho2, rfl⟩ noFill_tuple_add seq_tuple_add PySem.F.slot_tuple_add PySem.F.entry_tuple_add (PySem.F.args_tuple_add_2 _ _)
   (tuple_addW1 t b vs.toArray ws.toArray n n2 dd dd2 sl sl2 (by simpa using hv) (by simp [hw])) ⟨ho, ho2, h1 hw⟩
 ·refine concat_meets ⟨_, ho, rfl⟩ ⟨_, ho2, rfl⟩ noFill_tuple_add seq_tuple_add PySem.F.slot_tuple_add PySem.F.entry_tuple_add (PySem.F.args_tuple_add_2 _ _)
   (tuple_addW2 t b vs.toArray ws.toArray n n2 dd dd2 sl sl2 (by simpa using hv) (by simpa using hw) (by rw [List.size_toArray, List.size_toArray]; exact hsz)) ⟨ho, ho2, ?_⟩
  rw [e]
  exact h2 hw
noncomputable def sIx (n d : Nat) : Option Int -> Nat
 | none => d
 | some v => if v < 0 then (v + (n : Int)).toNat else min v.toNat n
theorem sIx_none (n d : Nat) : sIx n d none = d := rfl
theorem sIx_nat (n d k : Nat) : sIx n d (some (k : Int)) = min k n := by
 show (if (k : Int) < 0 then ((k : Int) + (n : Int)).toNat else min (k : Int).toNat n) = min k n
 rw [if_neg (by exact Om.k198 ), Int.toNat_natCast]
theorem sIx_le (n d : Nat) (hd : d <= n) (o : Option Int) : sIx n d o <= n := by
 cases o with
 | none => exact hd
 | some v =>
  show (if v < 0 then (v + (n : Int)).toNat else min v.toNat n) <= n
  by_cases hv : v < 0
  ·rw [if_pos hv]; exact Om.k197 hd hv
  ·rw [if_neg hv]; exact Nat.min_le_right _ _
theorem clip_eq (v : Int) (n d : Nat) : (if v < 0 then max (v + (n : Int)) 0 else min v (n : Int)) = ((sIx n d (some v) : Nat) : Int) := by
 show (if v < 0 then max (v + (n : Int)) 0 else min v (n : Int)) = (((if v < 0 then (v + (n : Int)).toNat else min v.toNat n) : Nat) : Int)
 by_cases hv : v < 0
 ·simp only [if_pos hv]; exact Om.k196 
 ·simp only [if_neg hv]; exact Om.k195 hv
theorem adjust_gen (lo hi : Option Int) (n : Nat) : Builtin.Slice.sliceAdjust lo hi 1 (n : Int) = (((sIx n 0 lo : Nat) : Int), ((sIx n n hi : Nat) : Int)) := by
 have h1 : ¬ ((1 : Int) < 0) := by exact Om.k194 
 unfold Builtin.Slice.sliceAdjust
 simp only [h1, if_false]
 refine Prod.ext ?_ ?_
 ·cases lo with
  | none => rfl
  | some v => exact clip_eq v n 0
 ·cases hi with
  | none => rfl
  | some v => exact clip_eq v n n
theorem places_gen (i j : Nat) : Builtin.Slice.slicePlaces (i : Int) (j : Int) 1 = j - i := by
 unfold Builtin.Slice.slicePlaces
 have h1 : (1 : Int) > 0 := by exact Om.k193 
 simp only [h1, if_true, Int.ediv_one]
 split <;> omega
theorem slicePart_ {v : Value} {o : Option Int} {Q : Option Int -> Shared -> Prop} (p : IsPart v o) (h : Q o s) : wpAny (model prog w) A (Builtin.Slice.slicePartIndex v) Q E s := by
 cases p with
 | none => exact slicePart_none h
 | int i t => exact slicePart_int h
theorem sliceApplied_gen {sl : Addr} {vl vu : Value} {lo hi : Option Int} {n : Nat} {Q : Int × Int × Nat -> Shared -> Prop} (hs : s.heap.IsSliceOf sl vl vu .none) (pl : IsPart vl lo) (pu : IsPart vu hi)
  (h : Q (((sIx n 0 lo : Nat) : Int), 1, sIx n n hi - sIx n 0 lo) s) : wpAny (model prog w) A (Builtin.Slice.sliceApplied (.ref sl) (pure (n : Int))) Q E s := by
 obtain ⟨os, hos, hcs, hds⟩ := id hs
 unfold Builtin.Slice.sliceApplied Builtin.Slice.sliceFields
 refine wpAny_bind (wpAny_bind (wpAny_field hos hds (x := vl) rfl (wpAny_bind (wpAny_field hos hds (x := vu) rfl (wpAny_bind (wpAny_field hos hds (x := .none) rfl (wpAny_pure ?_)))))))
 refine wpAny_bind (slicePart_none ?_)
 show wpAny _ _ (if ((1 : Int) == 0) = true then _ else _) _ _ s
 rw [if_neg (by decide)]
 refine wpAny_bind (slicePart_ pl (wpAny_bind (slicePart_ pu (wpAny_bind (wpAny_pure ?_)))))
 show wpAny _ _ (match Builtin.Slice.sliceAdjust lo hi 1 (n : Int) with | (lo, hi) => pure (lo, (1 : Int), Builtin.Slice.slicePlaces lo hi 1)) _ _ s
 rw [adjust_gen lo hi n]
 show wpAny _ _ (pure (((sIx n 0 lo : Nat) : Int), (1 : Int), Builtin.Slice.slicePlaces ((sIx n 0 lo : Nat) : Int) ((sIx n n hi : Nat) : Int) 1)) _ _ s
 rw [places_gen]
 exact wpAny_pure h
theorem pick_gen (xs : Array Value) (i k : Nat) : ((List.range k).filterMap fun (m : Nat) => xs[((i : Int) + (m : Int) * 1).toNat]?).toArray = ((xs.toList.drop i).take k).toArray := by
 have e : (fun (m : Nat) => xs[((i : Int) + (m : Int) * 1).toNat]?) = fun m => xs[i + m]? := by
  funext m
  have : ((i : Int) + (m : Int) * 1).toNat = i + m := by exact Om.k192 
  rw [this]
 rw [e]
 have := pick_run xs i k
 rw [List.filterMap_map] at this
 have e2 : ((fun x => xs[x]?) ∘ fun x => i + x) = fun m => xs[i + m]? := rfl
 rw [e2] at this
 rw [this]
theorem getItem_tuple_cut {t sl : Addr} {items : Array Value} {vl vu : Value} {lo hi : Option Int} {Q : Value -> Shared -> Prop} (ht : IsTup s.heap t items) (hs : s.heap.IsSliceOf sl vl vu .none) (pl : IsPart vl lo) (pu : IsPart vu hi)
  (hw : ¬ (sIx items.size 0 lo = 0 /\ sIx items.size items.size hi = items.size))
  (h : Q (.ref s.heap.objs.size) { s with heap := s.heap.push { cls := .type "tuple", data := .seq ((items.toList.drop (sIx items.size 0 lo)).take (sIx items.size items.size hi - sIx items.size 0 lo)).toArray } })
  (hsz : items.size <= sizeLine) : wpAny (model prog w) A (getItem (.ref t) (.ref sl)) Q E s := by
 have htake : sizeOk (.seq ((items.toList.drop (sIx items.size 0 lo)).take (sIx items.size items.size hi - sIx items.size 0 lo)).toArray) := by
  show ((items.toList.drop (sIx items.size 0 lo)).take (sIx items.size items.size hi - sIx items.size 0 lo)).toArray.size <= sizeLine
  rw [List.size_toArray, List.length_take, List.length_drop, Array.length_toList]
  exact Om.k191 hsz
 have hj : sIx items.size items.size hi <= items.size := sIx_le _ _ (Nat.le_refl _) hi
 obtain ⟨os, hos, hcs, hds⟩ := id hs
 have hTs : s.TypeIs (.ref sl) "slice" := ⟨os, hos, hcs⟩
 unfold getItem
 try with_reducible refine wpAny_holding ?_
 first | refine wpAny_bind (wpAny_pure ?_) | skip
 refine wpAny_bind (wpAny_sequenceKey ht.typeIs (by decide) ?_)
 refine wpAny_bind (wpAny_callSpecial?_slot (name := Str.ofString "__getitem__") ht.typeIs PyProof.Rows.slot_tuple_getitem
  (wpAny_call_entry PyProof.Rows.slot_tuple_getitem ht.typeIs entry_tuple_getitem ?_ (args_tuple_getitem _ _)))
 show wpAny _ _ (Builtin.Tuple.tupleItemsOf (.ref t) >>= _) _ _ s
 refine wpAny_bind (tupleItemsOf_ ht ?_)
 refine wpAny_bind (wpAny_typeOf hTs ?_)
 rw [if_pos (by decide)]
 refine wpAny_bind (sliceApplied_gen hs pl pu ?_)
 have hno : ¬ ((((sIx items.size 0 lo : Nat) : Int) == 0 && (1 : Int) == 1 && (sIx items.size items.size hi - sIx items.size 0 lo) == items.size) = true) := by
  intro q
  rw [Bool.and_eq_true, Bool.and_eq_true] at q
  have q1 : ((sIx items.size 0 lo : Nat) : Int) = 0 := eq_of_beq q.1.1
  have q2 : sIx items.size items.size hi - sIx items.size 0 lo = items.size := eq_of_beq q.2
  exact hw ⟨by exact Om.k190 q1, by exact Om.k189 hj q1 q2⟩
 show wpAny _ _ (if (((sIx items.size 0 lo : Nat) : Int) == 0 && (1 : Int) == 1 && (sIx items.size items.size hi - sIx items.size 0 lo) == items.size) = true then _ else _) _ _ s
 rw [if_neg hno, pick_gen]
 first
  | exact wpAny_bind (m := Builtin.Tuple.tupleExact _) (wpAny_newObj_type (wpAny_pure ⟨_, rfl, wpAny_pure h⟩) htake)
  | exact wpAny_bind (m := Builtin.Tuple.tupleExact _) (wpAny_newObj_type (wpAny_bind (wpAny_pure (wpAny_pure ⟨_, rfl, wpAny_pure h⟩))) htake)
  | exact wpAny_bind (wpAny_bind (m := Builtin.Tuple.tupleExact _) (wpAny_newObj_type (wpAny_pure (wpAny_pure ⟨_, rfl, wpAny_pure h⟩)) htake))
  | exact wpAny_bind (wpAny_bind (m := Builtin.Tuple.tupleExact _) (wpAny_newObj_type (wpAny_pure ⟨_, rfl, wpAny_pure h⟩) htake))
end
end HT
namespace L2
open PySem PySem.Spec PyProof.Rows
noncomputable abbrev TO := St -> Hp -> (Option Int -> Hp -> Prop) -> Prop
noncomputable def PO (X : Cx) (e : Option Expr) (t : TO) : Prop :=
 ∀ (pins : List (Addr × Obj)) (s : Shared) (σ : St) (H : Hp) (Q : Option Int -> Hp -> Prop), Inv X pins σ H s -> t σ H Q ->
  wpAny (model X.prog X.w) X.A (evalPart e X.env) (fun u s' => ∃ o H', Inv X pins σ H' s' /\ IsPart u o /\ Q o H') X.xe s
noncomputable def tNoPart : TO := fun _ H Q => Q none H
noncomputable def tPart (t : TE) : TO := fun σ H Q => t σ H fun x H1 => ∃ i, x = .int i /\ Q (some i) H1
theorem intsAre_of {ns : List Int} : ∀ {us : List Value}, Vals (ns.map V.int) us -> IntsAre us ns := by
 induction ns with
 | nil => intro us r; rw [List.map_nil] at r; cases r; exact .nil
 | cons n ns ih =>
  intro us r
  rw [List.map_cons] at r
  cases r with
  | cons r1 r2 =>
   obtain ⟨t, e⟩ := r1
   subst e
   exact .cons n t (ih r2)
section
variable {X : Cx} {e : Expr} {te : TE} {lo hi : Option Expr} {tl th : TO} {pos p2 : Pos}
theorem po_none : PO X none tNoPart := by
 intro pins s σ H Q I h
 rw [evalPart_none]
 exact wpAny_pure ⟨none, H, I, .none, h⟩
theorem po_some (h : PE X e te) : PO X (some e) (tPart te) := by
 intro pins s σ H Q I hw
 rw [evalPart_some]
 refine thn (h pins s σ H _ I hw) fun u s1 zz0 => ?_
 obtain ⟨x, H1, I1, r1, q1⟩ := zz0
 obtain ⟨i, rfl, q⟩ := q1
 obtain ⟨t, rfl⟩ := r1
 exact ⟨some i, H1, I1, .int i t, q⟩
noncomputable def SlR (X : Cx) (r : V -> Option Int -> Option Int -> Hp -> VK -> Prop) : Prop :=
 ∀ (pins : List (Addr × Obj)) (s : Shared) (σ : St) (H : Hp) (x : V) (v vl vu : Value) (lo hi : Option Int) (sl : Addr) (Q : VK), Inv X pins σ H s -> RelV x v -> s.heap.IsSliceOf sl vl vu .none -> IsPart vl lo -> IsPart vu hi -> r x lo hi H Q ->
  ∃ T id, typeLookup (.type T) "__getitem__" = pure (some (.builtin id)) /\ s.TypeIs v T /\ wpAny (model X.prog X.w) X.A (getItem v (.ref sl)) (EP X pins σ Q) X.xe s
noncomputable def tSl (r : V -> Option Int -> Option Int -> Hp -> VK -> Prop) (te : TE) (tl th : TO) : TE := fun σ H Q => te σ H fun x H1 => tl σ H1 fun l H2 => th σ H2 fun u H3 => r x l u H3 Q
theorem pe_slice {r : V -> Option Int -> Option Int -> Hp -> VK -> Prop} (hr : SlR X r) (he : PE X e te) (hl : PO X lo tl) (hu : PO X hi th) : PE X (.Subscript e (.Slice lo hi none p2) pos) (tSl r te tl th) := by
 intro pins s σ H Q I h
 refine Subscript_ (thn (he pins s σ H _ I h) fun v s1 zz0 => ?_)
 obtain ⟨x, H1, I1, r1, q1⟩ := zz0
 refine wpAny_Slice (thn (hl pins s1 σ H1 _ I1 q1) fun vl s2 ⟨l, H2, I2, pl, q2⟩ => thn (hu pins s2 σ H2 _ I2 q2) fun vu s3 zz0 => ?_)
 obtain ⟨u, H3, I3, pu, q3⟩ := zz0
 rw [evalPart_none]
 refine wpAny_pure ?_
 have I4 : Inv X pins σ H3 { s3 with heap := s3.heap.push { cls := .type "slice", data := .fields #[vl, vu, .none] } } := I3.kept (t' := s3.toks) fun b ob q => Heap.get?_push_of_some _ q
 obtain ⟨T, id, hT, ht, hg⟩ := hr pins { s3 with heap := s3.heap.push { cls := .type "slice", data := .fields #[vl, vu, .none] } } σ H3 x v vl vu l u s3.heap.objs.size Q I4 r1 (Heap.IsSliceOf.new ..) pl pu q3
 show wpAny (model X.prog X.w) X.A (subscriptTail e (.Slice lo hi none p2) v (.ref s3.heap.objs.size)) (EP X pins σ Q) X.xe { s3 with heap := s3.heap.push { cls := .type "slice", data := .fields #[vl, vu, .none] } }
 exact tail_any (ops := [.ref s3.heap.objs.size, v]) ht hT hg (by with_unfolding_all rfl)
noncomputable def cutV (xs : List V) (lo hi : Option Int) : List V := (xs.drop (HT.sIx xs.length 0 lo)).take (HT.sIx xs.length xs.length hi - HT.sIx xs.length 0 lo)
theorem cutV_length (xs : List V) (lo hi : Option Int) : (cutV xs lo hi).length <= xs.length := by
 unfold cutV
 rw [List.length_take, List.length_drop]
 exact Om.k10 
noncomputable def rSlT (K : PySem.W.Frag) : V -> Option Int -> Option Int -> Hp -> VK -> Prop := fun x lo hi H Q => ∃ a xs, x = .ref a /\ SqT K H a xs /\
 ¬ (HT.sIx xs.length 0 lo = 0 /\ HT.sIx xs.length xs.length hi = xs.length) /\ ∀ p, H p = none -> Q (.ref p) (upd H p (.tup (cutV xs lo hi)))
theorem sl_tup : SlR X (rSlT X.K) := by
 intro pins s σ H x v vl vu lo hi sl Q I rx hs pl pu h
 obtain ⟨a, xs, rfl, hx, hw, q⟩ := h
 cases rx
 obtain ⟨its, r, ht, hz⟩ := I.tuple hx
 have hlen : its.toArray.size = xs.length := by rw [List.size_toArray]; exact r.length.symm
 refine ⟨"tuple", _, PyProof.Rows.slot_tuple_getitem.lookup, ht.typeIs, ?_⟩
 refine HT.getItem_tuple_cut ht hs pl pu (by rw [hlen]; exact hw) ?_ (by rw [hlen]; exact hz)
 rw [hlen]
 refine ⟨.ref s.heap.objs.size, _, I.laid (t' := s.toks) (o := .tup (cutV xs lo hi)) (fun b ob q => Heap.get?_push_of_some _ q) (Nat.le_refl _) ?_, rfl, q _ (I.hok.fresh (Nat.le_refl _))⟩
 exact ⟨Nat.le_trans (cutV_length xs lo hi) hz, _, (r.drop (HT.sIx xs.length 0 lo)).take (HT.sIx xs.length xs.length hi - HT.sIx xs.length 0 lo), IsTupN.new _ _⟩
noncomputable def rCatT (K : PySem.W.Frag) : R2 := fun x y H Q => ∃ a b xs ys, x = .ref a /\ y = .ref b /\ SqT K H a xs /\ SqT K H b ys /\ xs ≠ [] /\ xs.length + ys.length <= sizeLine /\
 (ys = [] -> Q (.ref a) H) /\ (ys ≠ [] -> ∀ p, H p = none -> Q (.ref p) (upd H p (.tup (xs ++ ys))))
theorem Vals.nil_iff {xs : List V} {us : List Value} (r : Vals xs us) : us = [] ↔ xs = [] := by
 cases r with
 | nil => simp
 | cons _ _ => simp
theorem op_catT : OpR X (binaryOp .Add) (rCatT X.K) := by
 intro pins s σ H x y v u Q I rx ry h
 obtain ⟨a, b, xs, ys, rfl, rfl, ha, hb, hx, hz, q1, q2⟩ := h
 cases rx
 cases ry
 obtain ⟨its, r1, p1, _⟩ := I.tuple ha
 obtain ⟨its2, r2, p2, _⟩ := I.tuple hb
 refine HT.cat_tup p1 p2 (fun z => hx (r1.nil_iff.mp z)) (fun z => ⟨.ref a, H, I, rfl, q1 (r2.nil_iff.mp z)⟩) (fun z => ?_) (by rw [<- r1.length, <- r2.length]; exact hz)
 refine ⟨.ref s.heap.objs.size, _, I.laid (t' := s.toks) (o := .tup (xs ++ ys)) (fun b ob q => Heap.get?_push_of_some _ q) (Nat.le_refl _) ?_, rfl, q2 (fun w => z (r2.nil_iff.mpr w)) _ (I.hok.fresh (Nat.le_refl _))⟩
 exact ⟨by rw [List.length_append]; exact hz, _, r1.append r2, IsTupN.new _ _⟩
end
end L2
namespace L2
open PySem PySem.Spec PyProof.Rows
noncomputable def ixN (n : Nat) (i : Int) : Option Nat := if 0 <= i then (if i < n then some i.toNat else none) else if -(n : Int) <= i then some (i + n).toNat else none
noncomputable def atI {α : Type} (xs : List α) (i : Int) : Option α := (ixN xs.length i).bind fun j => xs[j]?
theorem ixN_seq {n : Nat} {i : Int} {j : Nat} (h : ixN n i = some j) : seqIndex? i n = some j /\ j < n /\ -(n : Int) <= i /\ i < n := by
 unfold ixN at h
 by_cases h0 : 0 <= i
 ·rw [if_pos h0] at h
  by_cases h1 : i < n
  ·rw [if_pos h1] at h
   have e : i.toNat = j := Option.some.inj h
   exact ⟨by rw [seqIndex_of h0 h1, e], by exact Om.k188 h0 h1 e, by exact Om.k187 h0, h1⟩
  ·rw [if_neg h1] at h; cases h
 ·rw [if_neg h0] at h
  by_cases h1 : -(n : Int) <= i
  ·rw [if_pos h1] at h
   have e : (i + n).toNat = j := Option.some.inj h
   exact ⟨by rw [seqIndex_neg (by exact Om.k181 h0) h1, e], by exact Om.k186 h0 h1 e, h1, by exact Om.k185 h0 h1⟩
  ·rw [if_neg h1] at h; cases h
theorem atI_get {α : Type} {xs : List α} {i : Int} {v : α} (h : atI xs i = some v) : ∃ j, seqIndex? i xs.length = some j /\ xs[j]? = some v /\ j < xs.length /\ -(xs.length : Int) <= i /\ i < xs.length := by
 unfold atI at h
 cases e : ixN xs.length i with
 | none => rw [e] at h; cases h
 | some j =>
  rw [e] at h
  obtain ⟨h1, h2, h3, h4⟩ := ixN_seq e
  exact ⟨j, h1, h, h2, h3, h4⟩
theorem atI_nat {α : Type} {xs : List α} {j : Nat} {v : α} (h : xs[j]? = some v) : atI xs (j : Int) = some v := by
 have hj : j < xs.length := (List.getElem?_eq_some_iff.mp h).1
 have e : ixN xs.length (j : Int) = some j := by
  unfold ixN
  rw [if_pos (by exact Om.c6), if_pos (by exact Om.c5 ‹_›)]; simp
 unfold atI; rw [e]; exact h
theorem atI_last {α : Type} (xs : List α) (v : α) : atI (xs ++ [v]) (-1) = some v := by
 have hl : (xs ++ [v]).length = xs.length + 1 := by simp
 have e : ixN (xs ++ [v]).length (-1) = some xs.length := by
  unfold ixN
  rw [hl, if_neg (by decide), if_pos (by exact Om.k184 )]
  congr 1
  exact Om.k183 
 unfold atI
 rw [e]
 show (xs ++ [v])[xs.length]? = some v
 simp
noncomputable def PlainIx (b : Expr) : Prop := ∀ o i, subscripted b false o i = operate [o, i] (getItem o i)
noncomputable def IxR (X : Cx) (r : R2) : Prop :=
 ∀ (value slice : Expr) (pins : List (Addr × Obj)) (s : Shared) (σ : St) (H : Hp) (x y : V) (v u : Value) (Q : VK), Inv X pins σ H s -> RelV x v -> RelV y u -> r x y H Q ->
  subscripted slice false v u = operate [v, u] (getItem v u) -> wpAny (model X.prog X.w) X.A (subscriptTail value slice v u) (EP X pins σ Q) X.xe s
noncomputable def MtR (X : Cx) (id : String) (r : V -> List V -> Hp -> VK -> Prop) : Prop :=
 ∀ (pins : List (Addr × Obj)) (s : Shared) (σ : St) (H : Hp) (x : V) (xs : List V) (v : Value) (us : List Value) (Q : VK), Inv X pins σ H s -> RelV x v -> Vals xs us -> r x xs H Q ->
  wpAny (model X.prog X.w) X.A (call (.builtin id) (v :: us)) (EP X pins σ Q) X.xe s
section
variable {X : Cx} {a b : Expr} {ta tb : TE} {pos : Pos}
theorem pe_ix {r : R2} (hr : IxR X r) (ha : PE X a ta) (hb : PE X b tb) (hs : PlainIx b) : PE X (.Subscript a b pos) (tOp r ta tb) := by
 intro pins s σ H Q I h
 exact Subscript_ (binT ha hb I h fun v u s2 x y H2 I2 rx ry q => hr a b pins s2 σ H2 x y v u Q I2 rx ry q (hs _ _))
inductive RIxLI (K : PySem.W.Frag) (x : V) (y : V) (H : Hp) (Q : VK) : Prop where
 | mk (p : Addr) (xs : List V) (i : Int) (v : V) (_ : x = .ref p) (_ : y = .int i) (_ : SqL K H p xs) (_ : atI xs i = some v) (_ : Q v H) : RIxLI K x y H Q
noncomputable def rIxL (K : PySem.W.Frag) : R2 := fun x y H Q => RIxLI K x y H Q
inductive RIxTI (K : PySem.W.Frag) (x : V) (y : V) (H : Hp) (Q : VK) : Prop where
 | mk (p : Addr) (xs : List V) (i : Int) (v : V) (_ : x = .ref p) (_ : y = .int i) (_ : SqT K H p xs) (_ : atI xs i = some v) (_ : Q v H) : RIxTI K x y H Q
noncomputable def rIxT (K : PySem.W.Frag) : R2 := fun x y H Q => RIxTI K x y H Q
theorem ix_list : IxR X (rIxL X.K) := by
 intro value slice pins s σ H x y v u Q I rx ry h hs
 obtain ⟨p, xs, i, z, rfl, rfl, hq, he, q⟩ := h
 cases rx
 obtain ⟨t, rfl⟩ := ry
 obtain ⟨its, r, pl, hz⟩ := I.list hq
 obtain ⟨j, h1, h2, h3, h4, h5⟩ := atI_get he
 obtain ⟨w, ew, rw'⟩ := r.get h2
 have hl := r.length
 have hn := line63
 have fin : EP X pins σ Q w s := ⟨z, H, I, rw', q⟩
 by_cases h0 : 0 <= i
 ·have hj : i.toNat = j := by
   rw [seqIndex_of h0 h5] at h1
   exact Option.some.inj h1
  exact item_listR pl.isList h0 (by exact Om.k182 hz h5 hl hn) (by rw [hj]; simpa using ew) fin hs
 ·have hj : (i + (its.toArray.size : Int)).toNat = j := by
   rw [seqIndex_neg (by exact Om.k181 h0) h4] at h1
   rw [List.size_toArray, <- hl]
   exact Option.some.inj h1
  exact subscriptTail_builtinR (x := w) pl.isList.typeIs slot_list_getitem.lookup
   (wpAny_getItem_list_neg (Q := fun r s' => r = w /\ EP X pins σ Q r s') pl.isList (by exact Om.k181 h0) (by rw [List.size_toArray] <;> exact Om.k180 h4 hl) (by exact Om.k179 hz h4 hl hn) (by rw [hj]; simpa using ew) ⟨rfl, fin⟩) hs
theorem ix_tup : IxR X (rIxT X.K) := by
 intro value slice pins s σ H x y v u Q I rx ry h hs
 obtain ⟨p, xs, i, z, rfl, rfl, hq, he, q⟩ := h
 cases rx
 obtain ⟨t, rfl⟩ := ry
 obtain ⟨its, r, pl, hz⟩ := I.tuple hq
 obtain ⟨j, h1, h2, h3, h4, h5⟩ := atI_get he
 obtain ⟨w, ew, rw'⟩ := r.get h2
 have hl := r.length
 have hn := line63
 have fin : EP X pins σ Q w s := ⟨z, H, I, rw', q⟩
 exact subscriptTail_builtinR (x := w) pl.typeIs slot_tuple_getitem.lookup
  (getItem_tuple (j := j) (Q := fun r s' => r = w /\ EP X pins σ Q r s') pl (by exact Om.k178 hz h3 h4 hl hn) (by exact Om.k177 hz h3 h5 hl hn) (by rw [List.size_toArray, <- hl]; exact h1) (by simpa using ew) ⟨rfl, fin⟩) hs
theorem slice_bounds (lo hi : Option Int) (n : Nat) : (sliceBounds lo hi none n).1 = ((HT.sIx n 0 lo : Nat) : Int) /\ (sliceBounds lo hi none n).2.1 = ((HT.sIx n n hi : Nat) : Int) /\ (sliceBounds lo hi none n).2.2 = 1 := by
 refine ⟨?_, ?_, rfl⟩
 ·cases lo with
  | none => simp [sliceBounds, HT.sIx]
  | some i =>
   simp only [sliceBounds, HT.sIx, Option.getD_none, show (1 : Int) > 0 by decide, if_true]
   by_cases h : i < 0
   ·simp only [h, if_true] <;> exact Om.k176 h
   ·simp only [h, if_false] <;> exact Om.k175 h
 ·cases hi with
  | none => simp [sliceBounds, HT.sIx]
  | some i =>
   simp only [sliceBounds, HT.sIx, Option.getD_none, show (1 : Int) > 0 by decide, if_true]
   by_cases h : i < 0
   ·simp only [h, if_true] <;> exact Om.k176 h
   ·simp only [h, if_false] <;> exact Om.k175 h
theorem slicePick_cut (its : List Value) (lo hi : Option Int) : slicePick its.toArray lo hi none = ((its.drop (HT.sIx its.length 0 lo)).take (HT.sIx its.length its.length hi - HT.sIx its.length 0 lo)).toArray := by
 obtain ⟨h1, h2, h3⟩ := slice_bounds lo hi its.toArray.size
 unfold slicePick
 rw [h1, h2, h3]
 simp only [sliceRange_one, pick_run, List.size_toArray] <;> rfl
noncomputable def rSlL (K : PySem.W.Frag) : V -> Option Int -> Option Int -> Hp -> VK -> Prop := fun x lo hi H Q => ∃ a xs, x = .ref a /\ SqL K H a xs /\ ∀ p, H p = none -> Q (.ref p) (upd H p (.lst (cutV xs lo hi)))
theorem sl_list : SlR X (rSlL X.K) := by
 intro pins s σ H x v vl vu lo hi sl Q I rx hs pl pu h
 obtain ⟨a, xs, rfl, hx, q⟩ := h
 cases rx
 obtain ⟨its, r, ht, hz⟩ := I.list hx
 have hlen := r.length
 refine ⟨"list", _, slot_list_getitem.lookup, ht.isList.typeIs, ?_⟩
 refine wpAny_getItem_list_slice ht.isList hs pl pu .none (by simp) ?_ (by rw [List.size_toArray] <;> exact Om.y2 ‹_› ‹_› rfl)
 rw [slicePick_cut, <- hlen]
 refine ⟨.ref s.heap.objs.size, _, I.laid (t' := s.toks) (o := .lst (cutV xs lo hi)) (fun b ob q => Heap.get?_push_of_some _ q) (Nat.le_refl _) ?_, rfl, q _ (I.hok.fresh (Nat.le_refl _))⟩
 exact ⟨Nat.le_trans (cutV_length xs lo hi) hz, _, 0, (r.drop (HT.sIx xs.length 0 lo)).take (HT.sIx xs.length xs.length hi - HT.sIx xs.length 0 lo), Heap.get?_push_size _ rfl⟩
noncomputable def flatV : V -> Bool
 | .non => true
 | .bl _ => true
 | .int _ => true
 | .str _ => true
 | _ => false
noncomputable def eqV : V -> V -> Bool
 | .non, .non => true
 | .bl a, .bl b => a == b
 | .bl a, .int b => (if a then 1 else 0) == b
 | .int a, .bl b => a == (if b then 1 else 0)
 | .int a, .int b => a == b
 | .str a, .str b => a == b
 | _, _ => false
theorem eqAt_V {A : Around} {s : Shared} {y x : V} {u v : Value} (ry : RelV y u) (rx : RelV x v) (fy : flatV y = true) (fx : flatV x = true) : SeqAt.EqAt A s u v (eqV y x) := by
 cases y with
 | non =>
  cases ry
  cases x with
  | non => cases rx; exact SeqAt.EqAt.same _
  | bl b => cases rx; exact SeqAt.EqAt.none_bool b
  | int b => obtain ⟨t, rfl⟩ := rx; exact SeqAt.EqAt.none_int b t
  | str b => obtain ⟨t, rfl⟩ := rx; exact SeqAt.EqAt.none_str b t
  | _ => exact absurd (show false = true from fx) Bool.false_ne_true
 | bl a =>
  cases ry
  cases x with
  | non => cases rx; exact SeqAt.EqAt.bool_none a
  | bl b => cases rx; exact SeqAt.EqAt.bool_bool a b
  | int b => obtain ⟨t, rfl⟩ := rx; exact SeqAt.EqAt.bool_int a b t
  | str b => obtain ⟨t, rfl⟩ := rx; exact SeqAt.EqAt.bool_str a b t
  | _ => exact absurd (show false = true from fx) Bool.false_ne_true
 | int a =>
  obtain ⟨t', rfl⟩ := ry
  cases x with
  | non => cases rx; exact SeqAt.EqAt.int_none a t'
  | bl b => cases rx; exact SeqAt.EqAt.int_bool a t' b
  | int b => obtain ⟨t, rfl⟩ := rx; exact SeqAt.EqAt.int_int a t' b t
  | str b => obtain ⟨t, rfl⟩ := rx; exact SeqAt.EqAt.int_str a t' b t
  | _ => exact absurd (show false = true from fx) Bool.false_ne_true
 | str a =>
  obtain ⟨t', rfl⟩ := ry
  cases x with
  | non => cases rx; exact SeqAt.EqAt.str_none a t'
  | bl b => cases rx; exact SeqAt.EqAt.str_bool a t' b
  | int b => obtain ⟨t, rfl⟩ := rx; exact SeqAt.EqAt.str_int a t' b t
  | str b => obtain ⟨t, rfl⟩ := rx; exact SeqAt.EqAt.str_str a t' b t
  | _ => exact absurd (show false = true from fx) Bool.false_ne_true
 | _ => exact absurd (show false = true from fy) Bool.false_ne_true
noncomputable def eqU (x : V) (u : Value) : Bool := match u with
 | .none => eqV .non x
 | .bool b => eqV (.bl b) x
 | .int i _ => eqV (.int i) x
 | .str z _ => eqV (.str z) x
 | _ => false
theorem eqU_of {x y : V} {u : Value} (r : RelV y u) (f : flatV y = true) : eqU x u = eqV y x := by
 cases y with
 | non => cases r; rfl
 | bl b => cases r; rfl
 | int i => obtain ⟨t, rfl⟩ := r; rfl
 | str z => obtain ⟨t, rfl⟩ := r; rfl
 | _ => exact absurd (show false = true from f) Bool.false_ne_true
theorem any_eqU {x : V} : ∀ {xs : List V} {us : List Value}, Vals xs us -> xs.all flatV = true -> us.any (eqU x) = xs.any fun y => eqV y x
 | _, _, .nil, _ => rfl
 | y :: xs, u :: us, .cons r t, f => by
  rw [List.all_cons, Bool.and_eq_true] at f
  rw [List.any_cons, List.any_cons, eqU_of r f.1, any_eqU t f.2]
theorem mem_eqAt {A : Around} {s : Shared} {x : V} {v : Value} (rx : RelV x v) (fx : flatV x = true) : ∀ {xs : List V} {us : List Value}, Vals xs us -> xs.all flatV = true -> ∀ u ∈ us, SeqAt.EqAt A s u v (eqU x u)
 | _, _, .nil, _ => fun u hu => by cases hu
 | y :: xs, u :: us, .cons r t, f => fun u' hu => by
  rw [List.all_cons, Bool.and_eq_true] at f
  rcases List.mem_cons.mp hu with rfl | hu
  ·rw [eqU_of r f.1]; exact eqAt_V r rx f.1 fx
  ·exact mem_eqAt rx fx t f.2 u' hu
noncomputable def inV (x : V) (xs : List V) : Bool := xs.any fun y => eqV y x
inductive RInI (K : PySem.W.Frag) (neg : Bool) (x : V) (y : V) (H : Hp) (Q : VK) : Prop where
 | mk (p : Addr) (xs : List V) (_ : y = .ref p) (_ : (SqL K H p xs \/ SqT K H p xs)) (_ : flatV x = true) (_ : xs.all flatV = true) (_ : Q (.bl (if neg then !inV x xs else inV x xs)) H) : RInI K neg x y H Q
noncomputable def rIn (K : PySem.W.Frag) (neg : Bool) : R2 := fun x y H Q => RInI K neg x y H Q
theorem op_in_seq : OpR X (compareOp .In) (rIn X.K false) := by
 intro pins s σ H x y v u Q I rx ry h
 obtain ⟨p, xs, rfl, hq, fx, fs, q⟩ := h
 cases ry
 rcases hq with hq | hq
 ·obtain ⟨its, r, pl, hz⟩ := I.list hq
  refine SeqAt.in_listAt (eqU x) pl.isList (fun w hw => mem_eqAt rx fx r fs w (by simpa using hw)) ⟨.bl _, H, I, rfl, ?_⟩
  rw [show its.toArray.any (eqU x) = its.any (eqU x) by simp, any_eqU r fs]
  exact q
 ·obtain ⟨its, r, pl, hz⟩ := I.tuple hq
  refine SeqAt.in_tupleAt (eqU x) pl (fun w hw => mem_eqAt rx fx r fs w (by simpa using hw)) ⟨.bl _, H, I, rfl, ?_⟩
  rw [show its.toArray.any (eqU x) = its.any (eqU x) by simp, any_eqU r fs]
  exact q
theorem op_notIn_seq : OpR X (compareOp .NotIn) (rIn X.K true) := by
 intro pins s σ H x y v u Q I rx ry h
 obtain ⟨p, xs, rfl, hq, fx, fs, q⟩ := h
 cases ry
 rcases hq with hq | hq
 ·obtain ⟨its, r, pl, hz⟩ := I.list hq
  refine SeqAt.notIn_listAt (eqU x) pl.isList (fun w hw => mem_eqAt rx fx r fs w (by simpa using hw)) ⟨.bl _, H, I, rfl, ?_⟩
  rw [show its.toArray.any (eqU x) = its.any (eqU x) by simp, any_eqU r fs]
  exact q
 ·obtain ⟨its, r, pl, hz⟩ := I.tuple hq
  refine SeqAt.notIn_tupleAt (eqU x) pl (fun w hw => mem_eqAt rx fx r fs w (by simpa using hw)) ⟨.bl _, H, I, rfl, ?_⟩
  rw [show its.toArray.any (eqU x) = its.any (eqU x) by simp, any_eqU r fs]
  exact q
theorem call_len_seq : CallR X (.builtin "len") (fun xs H Q => ∃ p ys, xs = [.ref p] /\ (SqL X.K H p ys \/ SqT X.K H p ys) /\ Q (.int ys.length) H) := by
 intro pins s σ H xs us Q I r h
 obtain ⟨p, ys, rfl, hq, q⟩ := h
 obtain ⟨u, rfl, rx⟩ := vals1 r
 cases rx
 have hn := line63
 rcases hq with hq | hq
 ·obtain ⟨its, r', pl, hz⟩ := I.list hq
  have hlen := r'.length
  exact Calls.call_len_list pl.isList (by simp only [List.size_toArray] <;> exact Om.k174 hn hz hlen) ⟨.int ys.length, H, I.tok _, ⟨s.toks + 1, by rw [List.size_toArray, hlen]⟩, q⟩
 ·obtain ⟨its, r', pl, hz⟩ := I.tuple hq
  have hlen := r'.length
  exact len_tuple pl (by simp only [List.size_toArray] <;> exact Om.k174 hn hz hlen) ⟨.int ys.length, H, I.tok _, ⟨s.toks + 1, by rw [List.size_toArray, hlen]⟩, q⟩
theorem call_list_of : CallR X (.type "list") (fun xs H Q => ∃ p ys, xs = [.ref p] /\ (SqL X.K H p ys \/ SqT X.K H p ys) /\ ∀ l, H l = none -> Q (.ref l) (upd H l (.lst ys))) := by
 intro pins s σ H xs us Q I r h
 obtain ⟨p, ys, rfl, hq, q⟩ := h
 obtain ⟨u, rfl, rx⟩ := vals1 r
 cases rx
 have fin : ∀ (its : List Value), Vals ys its -> ys.length <= sizeLine -> ∀ (h' : Heap) (c' : Nat), (∀ b o', s.heap.get? b = some o' -> h'.get? b = some o') ->
   h'.get? s.heap.objs.size = some { cls := .type "list", dict := none, data := .seq its.toArray c', slots := #[] } -> EP X pins σ Q (.ref s.heap.objs.size) { s with heap := h' } := fun its r' hz h' c' kp e =>
  ⟨.ref s.heap.objs.size, _, I.laid (t' := s.toks) kp (Nat.le_refl _) (show ObjOk X.prog X.w _ h' _ (.lst ys) from ⟨hz, its, c', r', e⟩), rfl, q _ (I.hok.fresh (Nat.le_refl _))⟩
 rcases hq with hq | hq
 ·obtain ⟨its, r', pl, hz⟩ := I.list hq
  have hlen := r'.length
  obtain ⟨o, ho, hc, n, hd⟩ := pl.isList
  exact call_list_seq p (.inl rfl) ho hc hd (fun h' c' kp e => fin its r' hz h' c' kp e) (by simp only [List.size_toArray] <;> exact Om.y2 ‹_› ‹_› rfl)
 ·obtain ⟨its, r', pl, hz⟩ := I.tuple hq
  have hlen := r'.length
  obtain ⟨o, ho, hc, n, hd⟩ := pl
  exact call_list_seq p (.inr rfl) ho hc hd (fun h' c' kp e => fin its r' hz h' c' kp e) (by simp only [List.size_toArray] <;> exact Om.y2 ‹_› ‹_› rfl)
theorem call_tuple_of : CallR X (.type "tuple") (fun xs H Q => ∃ p ys, xs = [.ref p] /\ ((SqL X.K H p ys /\ ∀ l, H l = none -> Q (.ref l) (upd H l (.tup ys))) \/ (SqT X.K H p ys /\ Q (.ref p) H))) := by
 intro pins s σ H xs us Q I r h
 obtain ⟨p, ys, rfl, h⟩ := h
 obtain ⟨u, rfl, rx⟩ := vals1 r
 cases rx
 rcases h with ⟨hq, q⟩ | ⟨hq, q⟩
 ·obtain ⟨its, r', pl, hz⟩ := I.list hq
  have hlen := r'.length
  refine call_tuple_list pl.isList (fun h' kp => ?_) (by simp only [List.size_toArray] <;> exact Om.y2 ‹_› ‹_› rfl)
  have I1 : Inv X pins σ H { s with heap := h' } := I.kept (t' := s.toks) kp
  have I2 : Inv X pins σ (upd H h'.objs.size (.tup ys)) { s with heap := h'.push { cls := .type "tuple", data := .seq its.toArray } } :=
   I1.laid (t' := s.toks) (fun b o e => Heap.get?_push_of_some _ e) (Nat.le_refl _) (show ObjOk X.prog X.w _ _ _ (.tup ys) from ⟨hz, its, r', IsTupN.new _ _⟩)
  exact ⟨.ref h'.objs.size, _, I2, rfl, q _ (I1.hok.fresh (Nat.le_refl _))⟩
 ·obtain ⟨its, r', pl, hz⟩ := I.tuple hq
  exact call_tuple_same pl ⟨.ref p, H, I, rfl, q⟩
noncomputable def tyV (K : PySem.W.Frag) (T : String) (x : V) (H : Hp) : Prop := match x with
 | .str _ => T = "str"
 | .int _ => T = "int"
 | .ref p => (T = "list" /\ ∃ xs, SqL K H p xs) \/ (T = "tuple" /\ ∃ o, K.lookup p = some o /\ o.cls = .type "tuple" /\ o.dict = none) \/
   (T = "dict" /\ ((∃ kvs, H p = some (.dK kvs)) \/ ∃ kvs, H p = some (.dT kvs))) \/ (T = "set" /\ ∃ S n, H p = some (.set S n))
 | _ => False
theorem tyV_is {pins : List (Addr × Obj)} {σ : St} {H : Hp} {s : Shared} {T : String} {x : V} {v : Value} (I : Inv X pins σ H s) (r : RelV x v) (ty : tyV X.K T x H) :
  s.TypeIs v T /\ ∀ a, v = .ref a -> ∃ ob, s.heap.get? a = some ob /\ ob.dict = none := by
 cases x with
 | str z =>
  obtain ⟨t, rfl⟩ := r
  cases (show T = "str" from ty)
  exact ⟨typeIs_str s z t, fun _ e => nomatch e⟩
 | int i =>
  obtain ⟨t, rfl⟩ := r
  cases (show T = "int" from ty)
  exact ⟨typeIs_int s i t, fun _ e => nomatch e⟩
 | ref p =>
  cases r
  rcases ty with ⟨rfl, xs, hq⟩ | ⟨rfl, o, hk, hc, hd⟩ | ⟨rfl, hk⟩ | ⟨rfl, S, n, hk⟩
  ·obtain ⟨its, _, pl, _⟩ := I.list hq
   refine ⟨pl.isList.typeIs, fun a e => ?_⟩
   cases e
   obtain ⟨o, n, e, c, hd, _⟩ := pl
   exact ⟨o, e, hd⟩
  ·refine ⟨⟨o, I.kIn p o hk, hc⟩, fun a e => ?_⟩
   cases e
   exact ⟨o, I.kIn _ o hk, hd⟩
  ·have z : ∃ o, s.heap.get? p = some o /\ o.ExactDict := by
    rcases hk with ⟨kvs, hk⟩ | ⟨kvs, hk⟩
    ·obtain ⟨_, _, _, _, o, _, _, e, ex, _⟩ := I.hok p _ hk
     exact ⟨o, e, ex⟩
    ·obtain ⟨_, _, _, _, o, _, _, e, ex, _⟩ := I.hok p _ hk
     exact ⟨o, e, ex⟩
   obtain ⟨o, e, ex⟩ := z
   refine ⟨⟨o, e, ex.1⟩, fun a e2 => ?_⟩
   cases e2
   exact ⟨o, e, ex.2.1⟩
  ·obtain ⟨o, _, _, _, e, ex, _⟩ := I.hok p _ hk
   refine ⟨⟨o, e, ex.1⟩, fun a e2 => ?_⟩
   cases e2
   exact ⟨o, e, ex.2.1⟩
 | _ => exact False.elim ty
noncomputable def tBM (K : PySem.W.Frag) (T : String) (r : V -> List V -> Hp -> VK -> Prop) (to : TE) (t : TA) : TE := fun σ H Q => to σ H fun x H1 => tyV K T x H1 /\ t σ H1 fun xs H2 => r x xs H2 Q
variable {o e : Expr} {es : List Expr} {to : TE} {t : TA} {name : Str} {apos cpos : Pos} {T id : String} {r : V -> List V -> Hp -> VK -> Prop}
theorem pe_bm (pa : PlainAttrs T) (slot : Slot T name id) (hty : typeOf (.builtin id) = pure (.type "method_descriptor")) (hm : MtR X id r) (ho : PE X o to) (ha : PA X (e :: es) t)
  (hbase : attributeBase o name X.env (eval o X.env) = eval o X.env := by rfl)
  (hfew : ((backTo cpos (starEach (e :: es) X.env)).all (fun x => !x.1) && (backToKw cpos (keywordEach [] X.env)).all (fun x => x.1.isSome)
   && decide ((e :: es).length + ([] : List Keyword).length + (if ([] : List Keyword).isEmpty then 0 else 1) < 30)) = true := by rfl)
  (hline : (apos.endLine == cpos.line) = true := by rfl) (hs : starEach (e :: es) X.env = (false, eval e X.env) :: starEach es X.env := by rfl) (hplain : (backTo cpos (starEach es X.env)).any (·.1) = false := by rfl) :
  PE X (.Call (.Attribute o name apos) (e :: es) [] cpos) (tBM X.K T r to t) := by
 intro pins s σ H Q I h
 refine wpAny_Call_method_late hbase hfew hline rfl (thn (ho pins s σ H _ I h) fun v s1 zz0 => ?_)
 obtain ⟨x, H1, I1, r1, ty, q1⟩ := zz0
 obtain ⟨h1, h2⟩ := tyV_is I1 r1 ty
 refine ⟨T, id, pa, slot, hty, h1, h2, ?_⟩
 have hA := ha cpos pins s1 σ H1 _ I1 q1
 rw [hs] at hA ⊢
 refine Calls.callWith_builtin (by show (false || (backTo cpos (starEach es X.env)).any (·.1)) = false; rw [hplain] <;> rfl) (Calls.evalArgs_plain ?_)
 exact thn hA fun us s2 ⟨vs, H2, I2, r2, q2⟩ => hm pins s2 σ H2 x vs v us Q I2 r1 r2 q2
end
end L2
namespace L2
open PySem PySem.Spec PyProof.Rows
noncomputable def MtM (X : Cx) (id : String) (r : V -> List V -> Hp -> VK -> Prop) : Prop :=
 ∀ (pins : List (Addr × Obj)) (s : Shared) (σ : St) (H : Hp) (x : V) (xs : List V) (v : Value) (us : List Value) (Q : VK), Inv X pins σ H s -> RelV x v -> Vals xs us -> r x xs H Q ->
  wpAny (model X.prog X.w) X.A (call (.builtin id) (v :: us)) (EP X pins σ Q) X.xe s
theorem Vals.one : ∀ {x : V} {us : List Value}, Vals [x] us -> ∃ u, us = [u] /\ RelV x u
 | _, _, .cons r .nil => ⟨_, rfl, r⟩
section
variable {X : Cx} {pins : List (Addr × Obj)} {σ : St} {H : Hp} {s : Shared} {l b : Addr} {xs ys zs : List V}
theorem Inv.lset {its its' : List Value} {n : Nat} {f : Array Value -> Array Value} {t' : Nat} (I : Inv X pins σ H s) (hH : H l = some (.lst xs))
  (e : s.heap.get? l = some { cls := .type "list", data := .seq its.toArray n }) (hf : f its.toArray = its'.toArray) (hv : Vals ys its') (hz : ys.length <= sizeLine) :
  Inv X pins σ (upd H l (.lst ys)) { s with heap := s.heap.update l (Obj.mapSeq f), toks := t' } := by
 have q := PySem.IsL.update e f
 rw [hf] at q
 refine I.write (x := l) (e := l) (by rw [hH]; exact trivial) (.inl rfl) (fun b' u hb hu => (Heap.get?_update_other s.heap (Obj.mapSeq f) (Ne.symm hb)).trans hu) ⟨_, q⟩ ?_
 exact ⟨hz, its', _, hv, q⟩
theorem Inv.lnew {its : List Value} {t' : Nat} (I : Inv X pins σ H s) (hv : Vals ys its) (hz : ys.length <= sizeLine) :
  Inv X pins σ (upd H s.heap.objs.size (.lst ys)) { s with heap := s.heap.push { cls := .type "list", data := .seq its.toArray }, toks := t' } :=
 I.laid (fun _ _ q => Heap.get?_push_of_some _ q) (Nat.le_refl _) ⟨hz, its, 0, hv, Heap.get?_push_size _ rfl⟩
theorem Inv.fresh (I : Inv X pins σ H s) : H s.heap.objs.size = none := I.hok.fresh (Nat.le_refl _)
theorem Inv.lstM (I : Inv X pins σ H s) (hH : H l = some (.lst xs)) : xs.length <= sizeLine /\ ∃ (its : List Value) (n : Nat), Vals xs its /\ xs.length = its.length /\ s.heap.get? l = some { cls := .type "list", data := .seq its.toArray n } := by
 obtain ⟨z, its, n, r, e⟩ := I.hok l _ hH
 exact ⟨z, its, n, r, r.length, e⟩
theorem notLongL {n : Nat} (h : n <= sizeLine) : Builtin.List.listTooLong n = false := by
 unfold Builtin.List.listTooLong
 exact decide_eq_false (by exact Om.k173 h)
end
section
variable {X : Cx}
inductive RAppendI (x : V) (vs : List V) (H : Hp) (Q : VK) : Prop where
 | mk (l : Addr) (xs : List V) (y : V) (_ : x = .ref l) (_ : vs = [y]) (_ : H l = some (.lst xs)) (_ : xs.length < sizeLine) (_ : Q .non (upd H l (.lst (xs ++ [y])))) : RAppendI x vs H Q
noncomputable def rAppend : V -> List V -> Hp -> VK -> Prop := fun x vs H Q => RAppendI x vs H Q
theorem mt_append : MtM X "list.append" rAppend := by
 intro pins s σ H x vs v us Q I rx rv h
 obtain ⟨l, xs, y, rfl, rfl, hH, hz, q⟩ := h
 cases rx
 obtain ⟨u, rfl, ru⟩ := rv.one
 obtain ⟨z, its, n, r, hl, e⟩ := I.lstM hH
 refine call_meets F.slot_list_append ⟨_, e, rfl⟩ F.entry_list_append (F.args_list_append_2 _ _) (PySem.list_append l its.toArray n u (by rw [List.size_toArray]; exact Om.y2 ‹_› ‹_› rfl)) ⟨e, ?_⟩
 refine ⟨.non, _, I.lset (its' := its ++ [u]) hH e (by simp) (r.append (.cons ru .nil)) ?_, rfl, q⟩
 rw [List.length_append, List.length_singleton]
 exact Om.f1 ‹_›
inductive RExtendI (x : V) (vs : List V) (H : Hp) (Q : VK) : Prop where
 | mk (l : Addr) (b : Addr) (xs : List V) (zs : List V) (_ : x = .ref l) (_ : vs = [.ref b]) (_ : H l = some (.lst xs)) (_ : H b = some (.lst zs)) (_ : xs.length + zs.length <= sizeLine) (_ : Q .non (upd H l (.lst (xs ++ zs)))) : RExtendI x vs H Q
noncomputable def rExtend : V -> List V -> Hp -> VK -> Prop := fun x vs H Q => RExtendI x vs H Q
theorem mt_extend : MtM X "list.extend" rExtend := by
 intro pins s σ H x vs v us Q I rx rv h
 obtain ⟨l, b, xs, zs, rfl, rfl, hH, hB, hz, q⟩ := h
 cases rx
 obtain ⟨u, rfl, ru⟩ := rv.one
 cases ru
 obtain ⟨z, its, n, r, hl, e⟩ := I.lstM hH
 obtain ⟨z2, its2, n2, r2, hl2, e2⟩ := I.lstM hB
 have hsz : its.toArray.size + its2.toArray.size <= sizeLine := by rw [List.size_toArray, List.size_toArray]; exact Om.k172 hz hl hl2
 have hlong : ¬ (!its.toArray.isEmpty && Builtin.List.listTooLong (its.toArray.size + its2.toArray.size)) = true := by
  rw [notLongL hsz, Bool.and_false]
  exact Bool.false_ne_true
 refine call_meets F.slot_list_extend ⟨_, e, rfl⟩ F.entry_list_extend (F.args_list_extend_2 _ _)
  (AutoSeq1.list_extend_list_list_0 l its.toArray n b its2.toArray n2 hlong (by rw [List.size_toArray]; exact Om.y2 ‹_› ‹_› rfl) (by exact Om.b1 ‹_› rfl)) ⟨e, e2, ?_⟩
 refine ⟨.non, _, I.lset (its' := its ++ its2) hH e (by simp) (r.append r2) ?_, rfl, q⟩
 rw [List.length_append]
 assumption
inductive RCatI (x : V) (y : V) (H : Hp) (Q : VK) : Prop where
 | mk (l : Addr) (b : Addr) (xs : List V) (zs : List V) (_ : x = .ref l) (_ : y = .ref b) (_ : H l = some (.lst xs)) (_ : H b = some (.lst zs)) (_ : xs.length + zs.length <= sizeLine) (_ : ∀ p, H p = none -> Q (.ref p) (upd H p (.lst (xs ++ zs)))) : RCatI x y H Q
noncomputable def rCat : R2 := fun x y H Q => RCatI x y H Q
theorem op_cat : OpR X (binaryOp .Add) rCat := by
 intro pins s σ H x y v u Q I rx ry h
 obtain ⟨l, b, xs, zs, rfl, rfl, hH, hB, hz, q⟩ := h
 cases rx
 cases ry
 obtain ⟨z, its, n, r, hl, e⟩ := I.lstM hH
 obtain ⟨z2, its2, n2, r2, hl2, e2⟩ := I.lstM hB
 refine PySem.P.add_list e e2 ?_ (by rw [List.size_toArray, List.size_toArray]; exact Om.k172 hz hl hl2)
 have ea : its.toArray ++ its2.toArray = (its ++ its2).toArray := by simp
 rw [ea]
 exact ⟨.ref _, _, I.lnew (t' := s.toks) (r.append r2) (by rw [List.length_append]; assumption), rfl, q _ I.fresh⟩
end
section
variable {prog : Program} {w : World} {A : Around} {E : Value -> Shared -> Prop} {s : Shared}
end
section
variable {X : Cx}
end
end L2
namespace Att
open PySem PySem.W PySem.Calls PyProof.Rows
theorem ints_of_wellAll {P : Params} {h : Heap} : ∀ (ns : List Int) (vs : List Value), WellAll P h vs (ns.map WData.int) -> IntsAre vs ns := by
 intro ns
 induction ns with
 | nil =>
  intro vs w
  rw [List.map_nil] at w
  cases w
  exact .nil
 | cons n ns ih =>
  intro vs w
  rw [List.map_cons] at w
  cases w with
  | cons a b =>
   cases a
   exact .cons _ _ (ih _ b)
theorem script_of {l : OpenLaw} {n : Nat} (hn : l.most = some n) {P : Params} {h : Heap} {args : List WData} {vals : List Value}
  (hpre : l.row.toRowW.claim.pre args = true) (hwl : WellAll P h vals args) :
  ∃ a vs ns, vals = [Value.ref a] /\ args = [WData.list (ns.map WData.int)] /\ h.get? a = some { cls := .type "list", data := .seq vs.toArray } /\ IntsAre vs ns /\ ns.length <= n := by
 have hsh : WShape.hasAll [] args [.list .int] = true := (pre_splitW hpre).1
 have hc : l.pre.holds [] { args := args } = true := (pre_splitW hpre).2
 obtain ⟨d, r, rfl, h1, h2⟩ := hasAllW_cons hsh
 obtain rfl := hasAllW_nil h2
 obtain ⟨xs, rfl, h3⟩ := hasW_list h1
 obtain ⟨ns, rfl⟩ := items_int h3
 have hlen : ns.length <= n := by
  unfold OpenLaw.pre at hc
  have h4 : (WTm.not (.lt (.lit (.int (n : Int))) (.len (.arg 0)))).holds [] { args := [.list (ns.map .int)] } = true := by
   have h4 := (holds_andW hc).1
   rw [hn] at h4
   exact h4
  have h5 := condW_of h4 (w_not (w_lt w_lit (w_len_list (w_arg rfl))))
  rw [List.length_map] at h5
  refine Nat.le_of_not_lt fun q => ?_
  have q' : (n : Int) < ((ns.length : Nat) : Int) := by exact Om.c5 ‹_›
  first
   | (rw [decide_eq_true q'] at h5; exact absurd h5 (by decide))
   | (simp at h5; omega)
 cases hwl with
 | cons w1 w2 =>
  cases w2
  cases w1 with
  | list ho hall => exact ⟨_, _, ns, rfl, rfl, ho, ints_of_wellAll ns _ hall, hlen⟩
theorem post_true (l : OpenLaw) (args : List WData) : l.row.toRowW.claim.post args (.bool true) args = true :=
 postW_of (r := l.row.toRowW) (X := (true == true))
  (show WShape.has [] (.bool true) .bool = true by first | rfl | decide | simp [WShape.has, WShape.arms, WShape.armsAll])
  (show (WTm.eq .res (.lit (.bool true))).value [] { args := args, res := some (.bool true), after := args } = some (.bool (true == true)) from w_eq_bool (w_res rfl) w_lit) rfl
theorem attach_call {l : OpenLaw} {n : Nat} {q : Program} {loose : List Str} {XP : (Str -> Option Value) -> Heap -> Prop} {YP : World -> Heap -> Prop} {d : DefRec}
  (hn : l.most = some n) (hdf : d.params.defaults = [])
  (call : ∀ (w : World) (s₀ s₁ : Shared) (mg mb : Str -> Option Value) (fa : Addr) (o : Obj) (pm cd doc : Value) (a : Addr) (vs : List Value) (ns : List Int),
   Ground q loose [] XP w s₀ mg mb s₁.heap -> YP w s₁.heap ->
   s₁.heap.get? fa = some o -> o.data = .func (docDef d.name d.params d.body d.scope pm cd doc) -> s₁.heap.CodeRec cd d.name -> mg d.name = some (.ref fa) ->
   s₁.heap.get? a = some { cls := .type "list", data := .seq vs.toArray } -> IntsAre vs ns -> ns.length <= n -> s₁.gens = #[] ->
   codeAny (model l.prog w) callerA (.call (.ref fa) ⟨[.ref a], []⟩) (fun r s' => r = .ok (.ret (.bool true)) /\ OldK s₁.heap s'.heap /\ s'.os = s₁.os /\ AllBare s'.gens) s₁) :
  WalkO q loose XP YP l.row.toRowW d [] (fun f vs => PySem.call f vs) := by
 intro w s₀ s₁ mg mb G Y fa o pm cd doc dV kV ho hd hcd hD hmg hg args vals as hpre hlay hrd hwl hlo
 obtain rfl : dV = .none := Dflts.none hD hdf
 obtain rfl : kV = .none := Dflts.noKw hD
 obtain ⟨a, vs, ns, rfl, rfl, hobj, hints, hlen⟩ := script_of hn hpre hwl
 refine enter_call (codeAny_mono (call w s₀ s₁ mg mb fa o pm cd doc a vs ns G Y ho (fd_plain hd) hcd hmg hobj hints hlen hg) fun r s' hq => ?_)
 obtain ⟨rfl, h2, h3, h4⟩ := hq
 exact ⟨.inl ⟨.bool true, .bool true, [], rfl, fun _ => rfl, .bool true, post_true l _, fun _ => ⟨List.Pairwise.nil, fun _ hm => (nomatch hm)⟩⟩, h2, h3, h4⟩
section
variable {prog : Program} {w : World} {A : Around} {E : Value -> Shared -> Prop} {s : Shared} {K : Frag}
end
end Att
namespace L2
open PySem PySem.Spec PyProof.Rows
theorem vals_ints : ∀ {vs : List Value} {ns : List Int}, IntsAre vs ns -> Vals (ns.map V.int) vs
 | _, _, .nil => .nil
 | _, _, .cons n t h => .cons ⟨t, rfl⟩ (vals_ints h)
noncomputable def Only (H : Hp) : Prop := ∀ b, H b = none \/ ∃ o xs, H b = some (.frz o (.lst xs))
theorem law_call {P : Program} {w : World} {K : PySem.W.Frag} {mg mb : Str -> Option Value} {CX : CXT} {k : Nat} {fa a : Addr} {fd : FuncData} {x : Str} {sp : Sp} {s₁ : Shared} {vs : List Value} {ns : List Int}
  (KX : K.In s₁.heap) (hns : s₁.heap.Ns mainGlobals mg) (hb : s₁.heap.Ns builtinsNs mb) (hbb : ∀ x : Str, x ≠ "__name__" -> mb x = bootBuiltins x) (hlim : s₁.heap.NoLimit) (hg : s₁.gens = #[])
  (ha : s₁.heap.get? a = some { cls := .type "list", data := .seq vs.toArray }) (hi : IntsAre vs ns) (hl : ns.length <= sizeLine) (hr : Room k callerA)
  (F : ∀ base : Heap, K.In base -> base.Ns mainGlobals mg -> FnOk P w K mg base CX k fa fd [x] sp) (hbind : ∀ (s : Shared) (u : Value), BindsTo s fd ⟨[u], []⟩ [(x, u)])
  (hsp : ∀ H : Hp, Only H -> SqL K H a (ns.map V.int) -> sp [.ref a] H (fun v _ => v = .bl true) fun _ _ _ => False)
  (hCX : ∀ H e s', CX [] H s₁ (fun _ _ _ => False) e s' -> False) :
  codeAny (model P w) callerA (.call (.ref fa) ⟨[.ref a], []⟩) (fun r s' => r = .ok (.ret (.bool true)) /\ OldK s₁.heap s'.heap /\ s'.os = s₁.os /\ AllBare s'.gens) s₁ := by
 have rv := vals_ints hi
 have lenV := hi.length
 have core : ∀ H : Hp, Only H -> SqL K H a (ns.map V.int) -> HOk P w H s₁.heap -> (∀ b, H b ≠ none -> b = a) -> (H a ≠ none -> K.lookup a = none) ->
   codeAny (model P w) callerA (.call (.ref fa) ⟨[.ref a], []⟩) (fun r s' => r = .ok (.ret (.bool true)) /\ OldK s₁.heap s'.heap /\ s'.os = s₁.os /\ AllBare s'.gens) s₁ := by
  intro H hO hS hok hA hK
  have base_of : ∀ {b : Addr} {o : Obj}, s₁.heap.get? b = some o -> H b = none -> (hidT s₁.heap H).get? b = some o := fun e n => hidT_get e n
  have noA : ∀ {b : Addr} {o : Obj} {es : Array DictEntry} {ep : Nat}, s₁.heap.get? b = some o -> o.data = .dict es ep -> H b = none := fun {b o es ep} e d => by
   cases q : H b with
   | none => rfl
   | some u =>
    have e' : b = a := hA b (by rw [q]; simp)
    subst e'
    rw [ha] at e; cases e
    have d' : Data.seq vs.toArray _ = Data.dict es ep := d
    cases d'
  have nsK : ∀ {b : Addr} {m : Str -> Option Value}, s₁.heap.Ns b m -> (hidT s₁.heap H).Ns b m := fun {b m} ⟨o, es, ep, e, d, r⟩ => ⟨o, es, ep, base_of e (noA e d), d, r⟩
  have hKb : K.In (hidT s₁.heap H) := fun b o e => base_of (KX b o e) (by
   cases q : H b with
   | none => rfl
   | some u =>
    have e' : b = a := hA b (by rw [q]; simp)
    subst e'
    rw [hK (by rw [q]; simp)] at e; cases e)
  have hM : Mod K mg (hidT s₁.heap H) := ⟨hKb, nsK hns, ⟨mb, nsK hb, hbb⟩, let ⟨mc, h1, h2⟩ := hlim; ⟨mc, nsK h1, h2⟩⟩
  have e0 : Env0 P w K mg (hidT s₁.heap H) callerA [] s₁ H := ⟨rfl, hM, fun b o e => of_hidT e, Nat.le_of_eq (hidT_size _ _), trivial, fun b hb => absurd (show b ∈ ([] : List Addr) from hb) (by simp), hok, .of_eq hg⟩
  refine codeAny_mono ((F _ hKb (nsK hns)).run callerA [] s₁ H ⟨[.ref a], []⟩ [.ref a] [.ref a] _ _ hr e0 (hbind s₁ (.ref a)) (.cons rfl .nil) (hsp H hO hS)) fun r s' h => ?_
  cases r with
  | error e => exact (hCX H e s' h).elim
  | ok fl =>
   cases fl with
   | next => exact False.elim h
   | brk => exact False.elim h
   | cont => exact False.elim h
   | ret u =>
    obtain ⟨v, H', os, bare, un, hok', r', q⟩ := h
    have q' : v = .bl true := q
    subst q'
    obtain rfl : u = Value.bool true := r'
    refine ⟨rfl, OldK.of_keep fun b o e => ?_, os, bare⟩
    cases q : H b with
    | none => exact un.keep b o e q (by intro z; exact absurd (show b ∈ ([] : List Addr) from z) (by simp)) (by simp)
    | some u =>
     rcases hO b with z | ⟨ob, xs, z⟩
     ·rw [q] at z; cases z
     ·have z2 := un.frzs b ob _ z
      obtain ⟨e1, _⟩ := hok b _ z
      obtain ⟨e2, _⟩ := hok' b _ z2
      rw [e] at e1; cases e1
      exact e2
 cases hk : K.lookup a with
 | some o =>
  have e := KX a o hk
  rw [ha] at e
  cases e
  refine core (fun _ => none) (fun _ => .inl rfl) (.inr ⟨_, vs.toArray, _, hk, rfl, rfl, rfl, by rw [List.size_toArray, lenV]; exact hl, by simpa using rv⟩) (fun b u z => by have z' : (none : Option HO) = some u := z; cases z') (fun b z => absurd rfl z) fun z => absurd rfl z
 | none =>
  refine core (fun b => if b = a then some (.frz { cls := .type "list", data := .seq vs.toArray } (.lst (ns.map V.int))) else none) (fun b => ?_) (.inl (.inr ⟨{ cls := .type "list", data := .seq vs.toArray }, if_pos rfl⟩)) (fun b u z => ?_) (fun b z => ?_) fun _ => hk
  ·by_cases hb : b = a
   ·exact .inr ⟨_, _, if_pos hb⟩
   ·exact .inl (if_neg hb)
  ·by_cases hb : b = a
   ·have z' := (if_pos hb).symm.trans z
    cases z'
    subst hb
    exact ⟨ha, by rw [List.length_map]; exact hl, vs, _, rv, ha⟩
   ·have z' := (if_neg hb).symm.trans z
    cases z'
  ·by_cases hb : b = a
   ·exact hb
   ·exact absurd (if_neg hb) z
end L2
namespace L2
open PySem PySem.Spec PyProof.Rows
theorem walk_of {l : PySem.W.OpenLaw} {n k : Nat} {q : Program} {loose : List Str} {XP : (Str -> Option Value) -> Heap -> Prop} {YP : World -> Heap -> Prop} {d : DefRec} {K : Params -> PySem.W.Frag} {CX : World -> CXT} {sp : World -> Sp} {x : Str}
  (hn : l.most = some n) (hn2 : n <= sizeLine) (hdf : d.params.defaults = []) (hr : Room k callerA)
  (hY : ∀ (w : World) (h : Heap), YP w h -> (K w.params).In h)
  (F : ∀ (w : World) (mg : Str -> Option Value) (fa : Addr) (h : Heap), (K w.params).In h -> h.Ns mainGlobals mg -> mg d.name = some (.ref fa) ->
   ∃ fd : FuncData, (∀ (s : Shared) (u : Value), BindsTo s fd ⟨[u], []⟩ [(x, u)]) /\
    ∀ base : Heap, (K w.params).In base -> base.Ns mainGlobals mg -> FnOk l.prog w (K w.params) mg base (CX w) k fa fd [x] (sp w))
  (hsp : ∀ (w : World) (H : Hp) (a : Addr) (ns : List Int), ns.length <= n -> Only H -> SqL (K w.params) H a (ns.map V.int) -> sp w [.ref a] H (fun v _ => v = .bl true) fun _ _ _ => False)
  (hCX : ∀ (w : World) (H : Hp) (s : Shared) (e : Value) (s' : Shared), CX w [] H s (fun _ _ _ => False) e s' -> False) :
  PySem.W.WalkO q loose XP YP l.row.toRowW d [] (fun f vs => PySem.call f vs) := by
 refine Att.attach_call hn hdf fun w s₀ s₁ mg mb fa o pm cd doc a vs ns G Y ho hd hcd hmg hobj hints hlen hg => ?_
 have KX := hY w _ Y
 obtain ⟨fd, hb, hF⟩ := F w mg fa _ KX G.T.g hmg
 exact law_call KX G.T.g G.T.b G.T.builtins G.T.nolimit hg hobj hints (Nat.le_trans hlen hn2) hr hF hb (fun H hO hS => hsp w H a ns hlen hO hS) fun H e s' => hCX w H s₁ e s'
end L2
namespace L2
open PySem PySem.Spec PyProof.Rows
noncomputable def defArgs (s : Stmt) : Arguments := match s with
 | .FunctionDef _ a _ _ _ _ _ _ _ _ => a
 | _ => { posonlyargs := [], args := [], vararg := none, kwonlyargs := [], kw_defaults := [], kwarg := none, defaults := [] }
noncomputable def defBody (s : Stmt) : List Stmt := match s with
 | .FunctionDef _ _ b _ _ _ _ _ _ _ => b
 | _ => []
noncomputable def defScope (s : Stmt) : Scope := match s with
 | .FunctionDef _ _ _ _ _ _ sc _ _ _ => sc
 | _ => { kind := .function, names := [], isGenerator := false, isCoroutine := false }
noncomputable abbrev CX0 : CXT := fun _ _ _ _ _ _ => False
noncomputable abbrev E0 : XK := fun _ _ _ => False
theorem pass0 {X : Cx} : Passes CX0 X E0 := fun _ _ _ _ _ _ _ h => h.elim
structure Fun (K : PySem.W.Frag) (x qual : Str) (st : Stmt) (f : Addr) (fd : FuncData) : Prop where
 ex : ∃ (oc : Value) (od : Option Addr) (kV doc pm : Value) (an : Option Addr) (cdv ct : Value) (osl : Array (Option Value)),
  fd = PySem.W.fnOf x qual (defArgs st) (defBody st) (defScope st) .none kV doc pm an cdv ct /\ K.lookup f = some ⟨oc, od, .func fd, osl⟩ /\ PySem.W.codeIn K cdv qual = true
 kp : PySem.W.keepIn K (.ref f) = true
section
variable {P : Program} {w : World} {K : PySem.W.Frag} {mg : Str -> Option Value} {base : Heap}
theorem Fun.ok {x qual : Str} {st : Stmt} {f : Addr} {fd : FuncData} {N ps : List Str} {k : Nat} {sp : Sp} (F : Fun K x qual st f fd) (S : FnScope N ps (defScope st)) (len : ∀ vs H Q E, sp vs H Q E -> vs.length = ps.length)
  (hbody : ∀ (cdv : Value) (A : Around) (outer : List Env) (s : Shared) (H : Hp) (vs : List V) (Q : VK) (E : XK), Room k (A.deeper (envOfC qual (defScope st) s.heap.objs.size f cdv)) -> sp vs H Q E ->
   ∃ t, PSs (cxOf CX0 P w K mg base N qual (defScope st) f cdv A outer s H E).nox (defBody st) t /\ t { nx := fun _ H' => Q .non H', rt := Q } (start N vs) H) : FnOk P w K mg base CX0 (k + 1) f fd ps sp := by
 obtain ⟨oc, od, kV, doc, pm, an, cdv, ct, osl, rfl, lk, hcd⟩ := F.ex
 refine fn_of lk hcd S len fun A outer s H vs Q E hr hsp => ?_
 obtain ⟨t, h, q⟩ := hbody cdv A outer s H vs Q E hr hsp
 exact ⟨t, h.nox, q⟩
theorem Fun.binds {x qual : Str} {st : Stmt} {f : Addr} {fd : FuncData} {ps : List Str} (F : Fun K x qual st f fd)
  (h : ∀ (kV doc pm : Value) (an : Option Addr) (cdv ct : Value) (us : List Value), us.length = ps.length -> bindArgs (PySem.W.fnOf x qual (defArgs st) (defBody st) (defScope st) .none kV doc pm an cdv ct) ⟨us, []⟩ = pure (ps.zip us)) : Binds K fd ps [] := by
 obtain ⟨oc, od, kV, doc, pm, an, cdv, ct, osl, rfl, lk, hcd⟩ := F.ex
 exact .all (h kV doc pm an cdv ct)
theorem fun_mk {x qual : Str} {st : Stmt} {f : Addr} {oc : Value} {od an : Option Addr} {osl : Array (Option Value)} {kV doc pm cdv ct : Value} (l : K.lookup f = some ⟨oc, od, .func (PySem.W.fnOf x qual (defArgs st) (defBody st) (defScope st) .none kV doc pm an cdv ct), osl⟩)
  (c : PySem.W.codeIn K cdv qual = true) (k : PySem.W.keepIn K (.ref f) = true) : Fun K x qual st f (PySem.W.fnOf x qual (defArgs st) (defBody st) (defScope st) .none kV doc pm an cdv ct) := ⟨⟨oc, od, kV, doc, pm, an, cdv, ct, osl, rfl, l, c⟩, k⟩
end
theorem small1000 {n : Nat} (h : n <= 1000) : n < sizeLine := Nat.lt_of_le_of_lt h (by decide)
section
variable {X : Cx}
theorem pv (i : Nat) {x : Str} {pos : Pos} (hN : X.N[i]? = some x := by rfl) (hv : Vis X.env.scope x := by first | exact Or.inl rfl | exact Or.inr (Or.inl rfl) | exact Or.inr (Or.inr rfl)) (hd : (x == ("__debug__" : Str)) = false := by decide)
  (hcd : (x == ("__classdict__" : Str)) = false := by decide) : PE X (.Name x pos) (tVar i) := pe_var hN hv hd hcd
end
theorem iteF {A B : Prop} (h : B) : if false = true then A else B := by
 rw [if_neg Bool.false_ne_true]
 exact h
theorem iteT {A B : Prop} (h : A) : if true = true then A else B := by
 rw [if_pos rfl]
 exact h
theorem ite2 {c A B : Prop} [Decidable c] (h1 : c -> A) (h2 : ¬ c -> B) : if c then A else B := by
 by_cases h : c
 ·rw [if_pos h]
  exact h1 h
 ·rw [if_neg h]
  exact h2 h
noncomputable def Same (H H' : Hp) : Prop := ∀ b o, H b = some o -> H' b = some o
theorem Same.refl (H : Hp) : Same H H := fun _ _ h => h
theorem Same.trans {H H1 H2 : Hp} (a : Same H H1) (b : Same H1 H2) : Same H H2 := fun c o h => b c o (a c o h)
theorem Same.free {H H' : Hp} (e : Same H H') {l : Addr} (h : H' l = Option.none) : H l = Option.none := by
 cases q : H l with
 | none => rfl
 | some o =>
  rw [e l o q] at h
  cases h
theorem Same.seq {K : PySem.W.Frag} {H H' : Hp} {a : Addr} {xs : List V} (e : Same H H') (h : SqL K H a xs) : SqL K H' a xs := by
 rcases h with (h | ⟨o, h⟩) | h
 ·exact .inl (.inl (e _ _ h))
 ·exact .inl (.inr ⟨o, e _ _ h⟩)
 ·exact .inr h
end L2
namespace L2
open PySem PySem.Spec PyProof.Rows
theorem forIn_yields {α β : Type} {f : α -> β -> Sem (ForInStep β)} {g : α -> β -> β} : ∀ (l : List α) (b : β), (∀ x ∈ l, ∀ c, f x c = pure (.yield (g x c))) -> forIn l b f = pure (l.foldl (fun c x => g x c) b)
 | [], b, _ => rfl
 | x :: l, b, h => by
  rw [List.forIn_cons, h x List.mem_cons_self, pure_bind]
  exact forIn_yields l _ fun y hy => h y (List.mem_cons_of_mem _ hy)
noncomputable def closStep (cells : List (Str × Addr)) (x : Str × NameKind) (cs : List (Str × Addr)) : List (Str × Addr) :=
 if (x.2 == NameKind.free) = true then (x.1, (cells.lookup x.1).getD 0) :: cs else cs
noncomputable def closOf (cells : List (Str × Addr)) (names : List (Str × NameKind)) (cs : List (Str × Addr)) : List (Str × Addr) := names.foldl (fun cs x => closStep cells x cs) cs
theorem closureFor_eq {scope : Scope} {env : Env} (h : ∀ y ∈ scope.names, y.2 = .free -> ∃ c, env.cells.lookup y.1 = some c) : closureFor scope env = pure (closOf env.cells scope.names []) := by
 simp only [closureFor]
 rw [forIn_yields (g := fun x cs => closStep env.cells x cs) scope.names [] (fun x hx c => by
  obtain ⟨n, kind⟩ := x
  cases hk : (kind == NameKind.free) with
  | false => simp only [hk, closStep, Bool.false_eq_true, if_false]
  | true =>
   obtain ⟨a, ha⟩ := h (n, kind) hx (by simpa using hk)
   have hc : cellOf env n = pure a := by
    unfold cellOf
    have ha' : env.cells.lookup n = some a := ha
    rw [ha']
   have ha' : env.cells.lookup n = some a := ha
   simp only [hk, closStep, if_true, hc, pure_bind, ha', Option.getD_some])]
 rfl
theorem closOf_sub {cells : List (Str × Addr)} : ∀ (names : List (Str × NameKind)) (cs : List (Str × Addr)), (∀ y ∈ names, y.2 = .free -> ∃ c, cells.lookup y.1 = some c) ->
  (∀ x c, cs.lookup x = some c -> cells.lookup x = some c) -> ∀ x c, (closOf cells names cs).lookup x = some c -> cells.lookup x = some c
 | [], cs, _, h => h
 | (n, k) :: r, cs, hf, h => by
  refine closOf_sub r (closStep cells (n, k) cs) (fun y hy => hf y (List.mem_cons_of_mem _ hy)) fun x c e => ?_
  unfold closStep at e
  split at e
  ·rename_i hk
   obtain ⟨a, ha⟩ := hf (n, k) List.mem_cons_self (by simpa using hk)
   have ha' : cells.lookup n = some a := ha
   rw [List.lookup_cons] at e
   cases hx : (x == n) with
   | true =>
    simp only [hx, ha', Option.getD_some] at e
    have : x = n := by simpa using hx
    rw [this, ha', e]
   | false =>
    simp only [hx] at e
    exact h x c e
  ·exact h x c e
theorem closOf_has {cells : List (Str × Addr)} : ∀ (names : List (Str × NameKind)) (cs : List (Str × Addr)) (x : Str), ((∃ c, cs.lookup x = some c) \/ (x, NameKind.free) ∈ names) -> ∃ c, (closOf cells names cs).lookup x = some c
 | [], cs, x, h => by
  rcases h with h | h
  ·exact h
  ·cases h
 | (n, k) :: r, cs, x, h => by
  refine closOf_has r (closStep cells (n, k) cs) x ?_
  rcases h with ⟨c, h⟩ | h
  ·left
   unfold closStep
   split
   ·rw [List.lookup_cons]
    cases hx : (x == n) with
    | true => exact ⟨_, rfl⟩
    | false => exact ⟨c, h⟩
   ·exact ⟨c, h⟩
  ·rcases List.mem_cons.mp h with e | h
   ·left
    cases e
    unfold closStep
    rw [if_pos (show ((n, NameKind.free).2 == NameKind.free) = true from rfl), List.lookup_cons]
    simp
   ·exact .inr h
noncomputable def PTs (X : Cx) (ifs : List Expr) (t : TT) : Prop :=
 ∀ (pins : List (Addr × Obj)) (s : Shared) (σ : St) (H : Hp) (Q : Bool -> Hp -> Prop), Inv X pins σ H s -> t σ H Q ->
  wpAny (model X.prog X.w) X.A (forIn ifs true fun c r => if r = true then do let ok <- isTrue c X.env (eval c X.env); pure (ForInStep.yield ok) else pure (ForInStep.yield r)) (TP X pins σ Q) X.xe s
noncomputable def tYes : TT := fun _ H Q => Q true H
theorem pts_nil {X : Cx} : PTs X [] tYes := fun pins s σ H Q I h => wpAny_tests_nil ⟨H, I, h⟩
theorem pts_one {X : Cx} {c : Expr} {t : TT} (h : PT X c t) : PTs X [c] t := fun pins s σ H Q I q => wpAny_tests_one (h pins s σ H Q I q)
noncomputable def cxComp (X : Cx) (Nc : List Str) (scope : Scope) (cl : List (Str × Addr)) (C : Addr) (s₁ : Shared) (H₁ : Hp) (fp : List Addr) : Cx where
 prog := X.prog
 w := X.w
 K := X.K
 mg := X.mg
 base := X.base
 A := X.A
 N := Nc
 s₀ := s₁
 H₀ := H₁
 env := compEnvC scope cl C X.env
 outer := X.stack
 stack := X.stack
 ex := fp
 fn := fun _ => false
 calm := X.calm
 pn := []
 xe := fun _ _ => False
noncomputable def capt (fm : List (Option Nat)) (σ : St) : St := fm.map fun o => match o with
 | none => none
 | some j => (σ[j]?).join
structure Capt (X : Cx) (Nc : List Str) (scope : Scope) (fm : List (Option Nat)) : Prop where
 kind : scope.kind = .function
 nocell : ∀ y ∈ scope.names, y.2 ≠ .cell
 names : ∀ y ∈ scope.names, y.2 = .local -> scope.names.lookup y.1 = some .local
 free : ∀ y ∈ scope.names, y.2 = .free -> X.env.kindOf y.1 = some .cell \/ X.env.kindOf y.1 = some .free
 len : fm.length = Nc.length
 at_ : ∀ (p : Option Nat × Str), p ∈ fm.zip Nc -> ∀ j, p.1 = some j -> X.N[j]? = some p.2 /\ (p.2, NameKind.free) ∈ scope.names /\ scope.names.lookup p.2 = some .free
noncomputable def captOk (N : List Str) (sc : Scope) (Nc : List Str) (scope : Scope) (fm : List (Option Nat)) : Bool :=
 decide (scope.kind = .function) && scope.names.all (fun y => decide (y.2 ≠ .cell) && (decide (y.2 ≠ .local) || decide (scope.names.lookup y.1 = some .local)) &&
  (decide (y.2 ≠ .free) || (decide (sc.names.lookup y.1 = some .cell) || decide (sc.names.lookup y.1 = some .free)))) && decide (fm.length = Nc.length) &&
  (fm.zip Nc).all (fun p => match p.1 with
   | none => true
   | some j => decide (N[j]? = some p.2) && decide ((p.2, NameKind.free) ∈ scope.names) && decide (scope.names.lookup p.2 = some .free))
theorem captOk.capt {X : Cx} {Nc : List Str} {scope : Scope} {fm : List (Option Nat)} (h : captOk X.N X.env.scope Nc scope fm = true) : Capt X Nc scope fm := by
 unfold captOk at h
 rw [Bool.and_eq_true, Bool.and_eq_true, Bool.and_eq_true] at h
 obtain ⟨⟨⟨h1, h2⟩, h3⟩, h4⟩ := h
 rw [List.all_eq_true] at h2 h4
 have g : ∀ y ∈ scope.names, (y.2 ≠ .cell /\ (y.2 ≠ .local \/ scope.names.lookup y.1 = some .local)) /\ (y.2 ≠ .free \/ (X.env.scope.names.lookup y.1 = some .cell \/ X.env.scope.names.lookup y.1 = some .free)) := fun y hy => by
  have := h2 y hy
  simpa only [Bool.and_eq_true, Bool.or_eq_true, decide_eq_true_eq] using this
 refine ⟨of_decide_eq_true h1, fun y hy => (g y hy).1.1, fun y hy e => ?_, fun y hy e => ?_, of_decide_eq_true h3, fun p hp j e => ?_⟩
 ·rcases (g y hy).1.2 with z | z
  ·exact absurd e z
  ·exact z
 ·rcases (g y hy).2 with z | z
  ·exact absurd e z
  ·exact z
 ·have := h4 p hp
  obtain ⟨a, b⟩ := p
  cases e
  simp only [Bool.and_eq_true, decide_eq_true_eq] at this
  exact ⟨this.1.1, this.1.2, this.2⟩
theorem lookup_relabel_free {env : Env} : ∀ {names : List (Str × NameKind)} {x : Str}, names.lookup x = some .free ->
    ((names.map fun (n, k) => if (k == NameKind.free && env.scope.kind == .function && env.kindOf n == some .cell) then (n, NameKind.cell) else (n, k)).lookup x = some .cell \/
     (names.map fun (n, k) => if (k == NameKind.free && env.scope.kind == .function && env.kindOf n == some .cell) then (n, NameKind.cell) else (n, k)).lookup x = some .free)
  | [], _, h => by simp at h
  | (n, k) :: r, x, h => by
    have ih := @lookup_relabel_free env r x
    rw [List.map_cons]
    cases hx : x == n with
    | true =>
      simp only [List.lookup_cons, hx] at h
      cases h
      dsimp only
      split
      · left
        simp only [List.lookup_cons, hx]
      · right
        simp only [List.lookup_cons, hx]
    | false =>
      simp only [List.lookup_cons, hx] at h
      dsimp only
      split
      · simp only [List.lookup_cons, hx]
        exact ih h
      · simp only [List.lookup_cons, hx]
        exact ih h
theorem free_of_relabel {env : Env} : ∀ {names : List (Str × NameKind)} {x : Str}, (∀ y ∈ names, y.2 ≠ .cell) ->
    ((names.map fun (n, k) => if (k == NameKind.free && env.scope.kind == .function && env.kindOf n == some .cell) then (n, NameKind.cell) else (n, k)).lookup x = some .cell \/
     (names.map fun (n, k) => if (k == NameKind.free && env.scope.kind == .function && env.kindOf n == some .cell) then (n, NameKind.cell) else (n, k)).lookup x = some .free) -> (x, NameKind.free) ∈ names
  | [], _, _, h => by simp at h
  | (n, k) :: r, x, hc, h => by
    have ih := @free_of_relabel env r x (fun y hy => hc y (List.mem_cons_of_mem _ hy))
    rw [List.map_cons] at h
    cases hx : x == n with
    | true =>
      have hxn : x = n := by simpa using hx
      dsimp only at h
      split at h
      · rename_i hk
        rw [Bool.and_eq_true, Bool.and_eq_true] at hk
        have : k = .free := by simpa using hk.1.1
        rw [hxn, this]
        exact List.mem_cons_self
      · simp only [List.lookup_cons, hx] at h
        rcases h with h | h
        · cases h
          exact absurd rfl (hc (n, .cell) List.mem_cons_self)
        · cases h
          rw [hxn]
          exact List.mem_cons_self
    | false =>
      dsimp only at h
      split at h
      · simp only [List.lookup_cons, hx] at h
        exact List.mem_cons_of_mem _ (ih h)
      · simp only [List.lookup_cons, hx] at h
        exact List.mem_cons_of_mem _ (ih h)
noncomputable def tComp (fm : List (Option Nat)) (wi : TI) (g : TG) (tt : TT) (te : TE) : TE := fun σ H Q => wi σ H fun J H1 => ∀ l, H1 l = none ->
  ∃ W : Nat -> Nat -> List V -> St -> Hp -> Prop, (∃ m, W 0 m [] (capt fm σ) (upd H1 l (.lst []))) /\
    ∀ i m ys σ' H', W i m ys σ' H' -> H' l = some (.lst ys) /\
      ((J.stop i H' /\ Q (.ref l) H') \/
       (J.go i H' /\ ∃ N : List V -> St -> Hp -> Prop, (∀ zs σ2 H2, N zs σ2 H2 -> ∃ m', m' < m /\ W (i + 1) m' zs σ2 H2) /\ ∀ x H2, J.yld i H' x H2 -> g x σ' H2 fun σ3 H3 => tt σ3 H3 fun b H4 =>
          if b = true then te σ3 H4 fun y H5 => H5 l = some (.lst ys) /\ ys.length < sizeLine /\ N (ys ++ [y]) σ3 (upd H5 l (.lst (ys ++ [y])))
          else N ys σ3 H4))
section
variable {prog : Program} {w : World} {A : Around} {R : Result -> Shared -> Prop} {s : Shared}
noncomputable abbrev NoX : Value -> Shared -> Prop := fun _ _ => False
theorem compLoop_T {elt target iter : Expr} {ifs : List Expr} {scope : Scope} {pos : Pos} {it acc : Value} {env : Env} (I : Nat -> Shared -> Prop)
  (turn : ∀ n s, I n s -> wpAny (model prog w) A (pyNext it) (fun r s₁ => match r with
   | none => R (.ok .next) s₁
   | some v => wpAny (model prog w) A (letOwnedTupleGo target it v) (fun _ s₁' => wpAny (model prog w) A (assign target env v) (fun _ s₂ =>
     wpAny (model prog w) A (forIn ifs true fun c r => if r = true then do let ok <- isTrue c env (eval c env); pure (ForInStep.yield ok) else pure (ForInStep.yield r)) (fun ok s₃ =>
      if ok = true then wpAny (model prog w) A (eval elt env) (fun x s₄ =>
       wpAny (model prog w) A (call (.builtin "list.append") [acc, x]) (fun _ s₅ => ∃ m, m < n /\ I m s₅) NoX s₄) NoX s₃
      else ∃ m, m < n /\ I m s₃) NoX s₂) NoX s₁') NoX s₁) NoX s)
  (n : Nat) (h : I n s) :
  codeAny (model prog w) A (.compLoop (.ListComp elt [⟨target, iter, ifs, 0⟩] scope pos) 0 it acc env) R s := by
 refine codeAny_loop rfl I (fun n s hI => ?_) n h
 show wpAny _ A ((compTurn (.ListComp elt [⟨target, iter, ifs, 0⟩] scope pos) 0 it acc env).onRaise (fun x => do noteFrame x env; theTreesLotGoes x)) _ _ s
 refine wpAny_noted ?_
 rw [compTurn_list]
 refine wpAny_bind (wpAny_standAt (wpAny_bind (wpAny_mono (turn n s hI) (fun r s₁ h₁ => ?_) fun _ _ f => f.elim)))
 cases r with
 | none => exact wpAny_pure h₁
 | some v =>
  refine wpAny_bind (wpAny_mono h₁ (fun _ s₁' h₁' => ?_) fun _ _ f => f.elim)
  refine wpAny_bind (wpAny_mono h₁' (fun _ s₂ h₂ => wpAny_bind (wpAny_mono h₂ (fun ok s₃ h₃ => ?_) fun _ _ f => f.elim)) fun _ _ f => f.elim)
  cases ok with
  | false => exact wpAny_pure ⟨rfl, h₃⟩
  | true =>
   exact wpAny_bind (wpAny_bind (wpAny_mono h₃ (fun x s₄ h₄ => wpAny_bind (wpAny_mono h₄ (fun _ s₅ h₅ => wpAny_pure (wpAny_pure ⟨rfl, h₅⟩)) fun _ _ f => f.elim)) fun _ _ f => f.elim))
end
section
variable {X : Cx} {pins : List (Addr × Obj)} {σ : St} {H₁ : Hp} {s₁ : Shared}
theorem comp_inv {Nc : List Str} {scope : Scope} {fm : List (Option Nat)} {fp : List Addr} {h₁ : Heap} {tk : Nat} {m : Str -> Option Value} (c : Capt X Nc scope fm) (I : Inv X pins σ H₁ s₁) (hf : ∀ b ∈ fp, FpOk X pins H₁ b) (hfp : ∀ b ∈ fp, b < s₁.heap.objs.size)
  (old : ∀ b o, s₁.heap.get? b = some o -> h₁.get? b = some o) (hD : h₁.get? s₁.heap.objs.size = some { cls := .type "list", data := .seq ([] : List Value).toArray }) (hns : h₁.Ns (s₁.heap.objs.size + 1) m) :
  Inv (cxComp X Nc scope (closOf X.env.cells scope.names []) (s₁.heap.objs.size + 1) s₁ H₁ fp) [] (capt fm σ) (upd H₁ s₁.heap.objs.size (.lst [])) { s₁ with heap := h₁, toks := tk } := by
 have hfree : ∀ y ∈ scope.names, y.2 = .free -> ∃ a, X.env.cells.lookup y.1 = some a := fun y hy e => I.ok.has y.1 (c.free y hy e)
 have sub : ∀ x a, (closOf X.env.cells scope.names []).lookup x = some a -> X.env.cells.lookup x = some a := closOf_sub _ _ hfree (fun x a e => by simp at e)
 have lt : ∀ x a, X.env.cells.lookup x = some a -> a < s₁.heap.objs.size := fun x a e => (I.cell x a e).elim fun v q => q.lt
 have hDn : H₁ s₁.heap.objs.size = none := I.hok.fresh (Nat.le_refl _)
 have hCn : H₁ (s₁.heap.objs.size + 1) = none := I.hok.fresh (Nat.le_succ _)
 refine ⟨⟨I.ok.mod, c.kind, I.ok.glob, I.ok.blt, Nat.le_succ _, fun x y a e1 e2 => I.ok.inj x y a (sub x a e1) (sub y a e2), fun x hx => ?_, fun x a z => absurd z (by intro q; cases q), I.ok.hd, I.ok.frames, .inl rfl, fun b hb => ?_, I.bs, Nat.le_trans I.ok.bsz I.sz, fun b o e hb => ?_, fun b hb hfs => ?_, I.stack, I.stkFree⟩,
  rfl, I.bare, Un.laid old (Nat.le_refl _) hDn, ⟨m, hns, fun i x v e1 e2 e3 => ?_⟩, fun x a e => ?_, ?_, fun x a e => ?_, fun p hp => absurd (show p ∈ ([] : List (Addr × Obj)) from hp) (by simp), ?_, ?_⟩
 ·exact closOf_has _ _ x (.inr (free_of_relabel (env := X.env) c.nocell hx))
 ·exact ⟨Nat.ne_of_lt (Nat.lt_succ_of_lt (hfp b hb)), fun x a e => (hf b hb).2.2.2.2.1 x a (sub x a e)⟩
 ·rcases (hf b hb).2.2.2.1 with z | z
  ·exact I.ok.noex b o e z
  ·exact absurd (Nat.lt_of_lt_of_le (Heap.lt_size e) (Nat.le_trans I.ok.bsz z)) (Nat.lt_irrefl _)
 ·rcases List.mem_cons.mp (I.stkSub b hfs) with z | z
  ·exact (hf b hb).2.1 z
  ·exact (hf b hb).2.2.1 z
 ·-- the names taken over
  have hz : ∃ j, fm[i]? = some (some j) /\ σ[j]? = some (some v) := by
   unfold capt at e2
   rw [List.getElem?_map] at e2
   cases q : fm[i]? with
   | none => rw [q] at e2; cases e2
   | some o =>
    rw [q] at e2
    cases o with
    | none => cases e2
    | some j =>
     refine ⟨j, rfl, ?_⟩
     have e2' : (σ[j]?).join = some v := Option.some.inj e2
     cases q2 : σ[j]? with
     | none => rw [q2] at e2'; cases e2'
     | some u => rw [q2] at e2'; cases u with
      | none => cases e2'
      | some u => cases e2'; rfl
  obtain ⟨j, hfm, hσ⟩ := hz
  have hp : ((some j : Option Nat), x) ∈ fm.zip Nc := by
   have : (fm.zip Nc)[i]? = some (some j, x) := by rw [List.getElem?_zip_eq_some]; exact ⟨hfm, e1⟩
   exact List.mem_of_getElem? this
  obtain ⟨hN, hmem, hlk⟩ := c.at_ _ hp j rfl
  have hk := c.free _ hmem rfl
  obtain ⟨m0, hn0, hl0⟩ := I.loc
  have hvis : Vis X.env.scope x := hk.elim (fun z => .inr (.inl z)) (fun z => .inr (.inr z))
  obtain ⟨u, ru, lk⟩ := hl0 j x v hN hσ hvis
  refine ⟨u, ru, .inr ⟨lookup_relabel_free (env := X.env) hlk, ?_⟩⟩
  rcases lk with ⟨z, _⟩ | ⟨_, a, ea, o, ho, hd⟩
  ·rcases hk with q | q
   ·rw [show X.env.kindOf x = _ from q] at z; cases z
   ·rw [show X.env.kindOf x = _ from q] at z; cases z
  ·obtain ⟨a', ea'⟩ := closOf_has (cells := X.env.cells) scope.names [] x (.inr hmem)
   have := sub x a' ea'
   rw [ea] at this
   cases this
   exact ⟨a, ea', o, old a o ho, hd⟩
 ·obtain ⟨v, o, ho, hd⟩ := I.cell x a (sub x a e)
  exact ⟨v, o, old a o ho, hd⟩
 ·show upd H₁ s₁.heap.objs.size (.lst []) (s₁.heap.objs.size + 1) = none
  rw [upd_ne (Nat.succ_ne_self _)]
  exact hCn
 ·show upd H₁ s₁.heap.objs.size (.lst []) a = none
  rw [upd_ne (Nat.ne_of_lt (lt x a (sub x a e)))]
  exact I.freeC x a (sub x a e)
 ·exact I.hok.laid old (Nat.le_refl _) ⟨Nat.zero_le _, [], 0, .nil, hD⟩
 ·show (capt fm σ).length = Nc.length
  unfold capt
  rw [List.length_map]
  exact c.len
theorem comp_back {Nc : List Str} {scope : Scope} {cl : List (Str × Addr)} {C : Addr} {fp : List Addr} {σ' : St} {H' : Hp} {s' : Shared} (I : Inv X pins σ H₁ s₁) (hf : ∀ b ∈ fp, FpOk X pins H₁ b) (J : Inv (cxComp X Nc scope cl C s₁ H₁ fp) [] σ' H' s') :
  Inv X pins σ H' s' := I.call' (ch := fp) J.os J.base J.hok J.bare fun b hb => ⟨(hf b hb).2.2.2.1, (hf b hb).2.1, (hf b hb).2.2.2.2.1, (hf b hb).2.2.2.2.2⟩
theorem comp_go {Nc : List Str} {scope : Scope} {cl : List (Str × Addr)} {fp : List Addr} {σ' : St} {H' : Hp} {s' : Shared} {σ2 : St} {s2 : Shared} {h'' : Heap} (I : Inv X pins σ H₁ s₁) (J : Inv (cxComp X Nc scope cl (s₁.heap.objs.size + 1) s₁ H₁ fp) [] σ' H' s')
  (I2 : Inv X pins σ2 H' s2) (sb : Heap.SameBut (s₁.heap.objs.size + 1) s2.heap h'') : Inv X pins σ2 H' { s2 with heap := h'' } := by
 have hle : s₁.heap.objs.size <= s₁.heap.objs.size + 1 := Nat.le_succ _
 refine I2.turned (t' := s2.toks) (it := s₁.heap.objs.size + 1) (fun b o hb e => (sb.2 b hb).trans e) J.free (Nat.ne_of_gt (Nat.lt_of_lt_of_le I.lt hle)) (.inr (Nat.le_trans I.sz hle)) (fun x c e z => ?_) (fun p hp z => ?_)
 ·obtain ⟨v, q⟩ := I.cell x c e
  exact absurd (Nat.lt_of_lt_of_le q.lt (by rw [z]; exact hle)) (Nat.lt_irrefl _)
 ·exact absurd (Nat.lt_of_lt_of_le (Heap.lt_size (I.pin p hp).1) (by rw [z]; exact hle)) (Nat.lt_irrefl _)
theorem comp_block {elt tg iter : Expr} {ifs : List Expr} {scope : Scope} {pos : Pos} {Nc : List Str} {fm : List (Option Nat)} {g : TG} {tt : TT} {te : TE} {it : Addr} {fp : List Addr} {tn : Nat -> Heap -> Prop} {J : It} {Q : VK} {E : Value -> Shared -> Prop} {RR : Value -> Addr -> Result -> Shared -> Prop}
    (hc : X.calm = true) (c : Capt X Nc scope fm) (I : Inv X pins σ H₁ s₁) (T : Turn X.prog X.w X.K tg J fp it tn) (st : tn 0 s₁.heap) (hf : ∀ b ∈ fp, FpOk X pins H₁ b)
    (hg : ∀ cl C s₁ H₁ fp, PG (cxComp X Nc scope cl C s₁ H₁ fp) tg g) (ht : ∀ cl C s₁ H₁ fp, PTs (cxComp X Nc scope cl C s₁ H₁ fp) ifs tt) (he : ∀ cl C s₁ H₁ fp, PE (cxComp X Nc scope cl C s₁ H₁ fp) elt te)
    (h : ∀ l, H₁ l = none -> ∃ W : Nat -> Nat -> List V -> St -> Hp -> Prop, (∃ m, W 0 m [] (capt fm σ) (upd H₁ l (.lst []))) /\
      ∀ i m ys σ' H', W i m ys σ' H' -> H' l = some (.lst ys) /\
        ((J.stop i H' /\ Q (.ref l) H') \/
         (J.go i H' /\ ∃ N : List V -> St -> Hp -> Prop, (∀ zs σ2 H2, N zs σ2 H2 -> ∃ m', m' < m /\ W (i + 1) m' zs σ2 H2) /\ ∀ x H2, J.yld i H' x H2 -> g x σ' H2 fun σ3 H3 => tt σ3 H3 fun b H4 =>
            if b = true then te σ3 H4 fun y H5 => H5 l = some (.lst ys) /\ ys.length < sizeLine /\ N (ys ++ [y]) σ3 (upd H5 l (.lst (ys ++ [y])))
            else N ys σ3 H4)))
    (fin : ∀ σ' H' s', Inv (cxComp X Nc scope (closOf X.env.cells scope.names []) (s₁.heap.objs.size + 1) s₁ H₁ fp) [] σ' H' s' -> Q (.ref s₁.heap.objs.size) H' -> RR (.ref s₁.heap.objs.size) (s₁.heap.objs.size + 1) (.ok .next) s') :
    wpAny (model X.prog X.w) X.A (newList []) (fun acc s₃ => wpAny (model X.prog X.w) X.A (newFunctionEnv scope X.env.globals (closOf X.env.cells scope.names []) [] X.env.qual none .none (some X.env)) (fun cenv s₄ =>
      codeAny (model X.prog X.w) X.A (.compStart (.ListComp elt [⟨tg, iter, ifs, 0⟩] scope pos) 0 (.ref it) acc { cenv with scope := relabel scope X.env }) (RR acc cenv.locals) s₄) E s₃) E s₁ := by
  have hfp : ∀ b ∈ fp, b < s₁.heap.objs.size := fun b hb => by
    obtain ⟨o, ho, _⟩ := T.obj 0 _ st b hb
    exact Heap.lt_size ho
  refine wpAny_newObj_type (wpAny_newFunctionEnv c.nocell (by intro y hy; simp at hy) (fun h₁ hns₁ hsb₁ => ?_) c.kind)
  dsimp only at hns₁ hsb₁ ⊢
  generalize hH2 : s₁.heap.push { cls := .type "list", dict := none, data := .seq ([] : List Value).toArray } = H2 at hns₁ hsb₁ ⊢
  have hC : H2.objs.size = s₁.heap.objs.size + 1 := by rw [<- hH2, Heap.size_push]
  rw [hC] at hns₁ hsb₁
  show codeAny _ _ (.compStart _ 0 _ _ (compEnvC scope (closOf X.env.cells scope.names []) H2.objs.size X.env)) (RR _ H2.objs.size) _
  rw [hC]
  have old : ∀ b o, s₁.heap.get? b = some o -> h₁.get? b = some o := fun b o e => hsb₁.extBut b o (Nat.ne_of_lt (Nat.lt_succ_of_lt (Heap.lt_size e))) (Heap.get?_push_of_some _ (hH2 ▸ Heap.get?_push_of_some _ e))
  have hD : h₁.get? s₁.heap.objs.size = some { cls := .type "list", data := .seq ([] : List Value).toArray } := hsb₁.extBut _ _ (Nat.ne_of_lt (Nat.lt_succ_self _)) (Heap.get?_push_of_some _ (hH2 ▸ Heap.get?_push_size _ rfl))
  have st1 : tn 0 h₁ := T.keep _ _ _ st fun b _ o e => old b o e
  have hDn : H₁ s₁.heap.objs.size = none := I.hok.fresh (Nat.le_refl _)
  obtain ⟨W, ⟨m0, w0⟩, turn⟩ := h _ hDn
  have loop : ∀ tk : Nat, codeAny (model X.prog X.w) X.A (.compLoop (.ListComp elt [⟨tg, iter, ifs, 0⟩] scope pos) 0 (.ref it) (.ref s₁.heap.objs.size) (compEnvC scope (closOf X.env.cells scope.names []) (s₁.heap.objs.size + 1) X.env))
      (RR (.ref s₁.heap.objs.size) (s₁.heap.objs.size + 1)) { s₁ with heap := h₁, toks := tk } := by
    intro tk
    have I0 := comp_inv (tk := tk) c I hf hfp old hD hns₁
    have stat : ∀ {H' : Hp}, (∀ b ∈ fp, H' b = none) -> ∀ b ∈ fp, FpOk (cxComp X Nc scope (closOf X.env.cells scope.names []) (s₁.heap.objs.size + 1) s₁ H₁ fp) [] H' b := fun hn b hb =>
      ⟨hn b hb, (I0.ok.exf b hb).1, I0.ok.exfs b hb, .inl hb, (I0.ok.exf b hb).2, fun p hp => absurd (show p ∈ ([] : List (Addr × Obj)) from hp) (by simp)⟩
    refine compLoop_T (fun n s' => ∃ i ys σ' H', Inv (cxComp X Nc scope (closOf X.env.cells scope.names []) (s₁.heap.objs.size + 1) s₁ H₁ fp) [] σ' H' s' /\ tn i s'.heap /\ (∀ b ∈ fp, H' b = none) /\ W i n ys σ' H') ?_ m0
      ⟨0, [], _, _, I0, st1, fun b hb => by rw [upd_ne (Nat.ne_of_lt (hfp b hb))]; exact (hf b hb).1, w0⟩
    rintro n s3 ⟨i, ys, σ3, H3, I3, st3, fr3, w3⟩
    obtain ⟨hl, alt⟩ := turn i n ys σ3 H3 w3
    rcases alt with ⟨stop, qn⟩ | ⟨go, N, hN, step⟩
    · refine thn (T.done (cxComp X Nc scope (closOf X.env.cells scope.names []) (s₁.heap.objs.size + 1) s₁ H₁ fp) rfl rfl rfl hc i [] s3 σ3 H3 NoX I3 (stat fr3) st3 stop) fun r s4 zz0 => ?_
      obtain ⟨hr, I4⟩ := zz0
      subst hr
      exact fin σ3 H3 s4 I4 qn
    · refine thn (T.item (cxComp X Nc scope (closOf X.env.cells scope.names []) (s₁.heap.objs.size + 1) s₁ H₁ fp) rfl rfl rfl hc i [] s3 σ3 H3 NoX I3 (stat fr3) st3 go) fun r s4 zz0 => ?_
      obtain ⟨u, hr, h4⟩ := zz0
      subst hr
      refine thn h4 fun _ s5 zz0 => ?_
      obtain ⟨x, H5, I5, r5, y5, st5, fr5⟩ := zz0
      have I5' := I5.pinned (stat fr5) (T.obj _ _ st5)
      have again : ∀ {σ7 : St} {H7 : Hp} {s7 : Shared} {zs : List V} {m' : Nat}, Inv (cxComp X Nc scope (closOf X.env.cells scope.names []) (s₁.heap.objs.size + 1) s₁ H₁ fp) ([] ++ pinsAt fp s5.heap) σ7 H7 s7 -> m' < n -> W (i + 1) m' zs σ7 H7 ->
          ∃ m, m < n /\ ∃ i ys σ' H', Inv (cxComp X Nc scope (closOf X.env.cells scope.names []) (s₁.heap.objs.size + 1) s₁ H₁ fp) [] σ' H' s7 /\ tn i s7.heap /\ (∀ b ∈ fp, H' b = none) /\ W i m ys σ' H' := fun {σ7 H7 s7 zs m'} I7 hm w7 => by
        refine ⟨m', hm, i + 1, zs, σ7, H7, I7.unpinned, T.keep _ _ _ st5 fun b hb o e => (I7.pin (b, o) (List.mem_append_right _ (List.mem_append_right _ (mem_pinsAt hb e)))).1, fun b hb => ?_, w7⟩
        obtain ⟨o, e, d⟩ := T.obj _ _ st5 b hb
        exact (I7.pin (b, o) (List.mem_append_right _ (List.mem_append_right _ (mem_pinsAt hb e)))).2.1
      refine thn (hg _ _ _ _ _ _ s5 σ3 H5 x u _ I5' r5 (step x H5 y5)) fun _ s6 zz0 => ?_
      obtain ⟨σ6, H6, I6, q6⟩ := zz0
      refine thn (ht _ _ _ _ _ _ s6 σ6 H6 _ I6 q6) fun ok s7 zz0 => ?_
      obtain ⟨H7, I7, q7⟩ := zz0
      cases ok with
      | false =>
        rw [if_neg Bool.false_ne_true] at q7 ⊢
        obtain ⟨m', hm, w7⟩ := hN _ _ _ q7
        exact again I7 hm w7
      | true =>
        rw [if_pos rfl] at q7 ⊢
        refine thn (he _ _ _ _ _ _ s7 σ6 H7 _ I7 q7) fun y s8 zz0 => ?_
        obtain ⟨v8, H8, I8, r8, hl8, hz8, n8⟩ := zz0
        obtain ⟨m', hm, w8⟩ := hN _ _ _ n8
        refine thn (mt_append _ s8 σ6 H8 (.ref s₁.heap.objs.size) [v8] (.ref s₁.heap.objs.size) [y] (fun v H' => H' = upd H8 s₁.heap.objs.size (.lst (ys ++ [v8]))) I8 rfl (.cons r8 .nil) ⟨_, ys, v8, rfl, rfl, hl8, hz8, rfl⟩) fun _ s9 zz0 => ?_
        obtain ⟨_, H9, I9, _, e9⟩ := zz0
        subst e9
        exact again I9 hm w8
  exact codeAny_compStart_list (loop _) (T.self _ 0 _ _ _ st1 (loop _))
end
section
variable {X : Cx} {elt tg iter : Expr} {ifs : List Expr} {scope : Scope} {pos spos : Pos} {wi : TI} {g : TG} {tt : TT} {te : TE}
theorem pe_lc (Nc : List Str) (fm : List (Option Nat)) (hc : X.calm = true) (hk : captOk X.N X.env.scope Nc scope fm = true) (hi : PI X tg iter wi)
  (hg : ∀ cl C s₁ H₁ fp, PG (cxComp X Nc scope cl C s₁ H₁ fp) tg g) (ht : ∀ cl C s₁ H₁ fp, PTs (cxComp X Nc scope cl C s₁ H₁ fp) ifs tt) (he : ∀ cl C s₁ H₁ fp, PE (cxComp X Nc scope cl C s₁ H₁ fp) elt te)
  (hs : ∀ x, foldedSetIterable iter X.env x = pure x := by intro _; rfl) : PE X (.ListComp elt [⟨tg, iter, ifs, 0⟩] scope pos) (tComp fm wi g tt te) := by
 intro pins s σ H Q I h
 have c := captOk.capt hk
 rw [eval_ListComp]
 refine wpAny_comprehension_free (use := none) rfl hs (closureFor_eq fun y hy e => I.ok.has y.1 (c.free y hy e)) c.kind c.names (thn (hi pins s σ H _ I h) fun v s1 h1 => thn h1 fun itv s2 h2 => ?_)
 obtain ⟨it, fp, tn, J, H2, e, I2, T, st2, f2, h⟩ := h2
 subst e
 refine comp_block (RR := fun acc C => compPost (model X.prog X.w) X.A X.xe none (EP X pins σ Q) acc C) hc c I2 T st2 f2 hg ht he h fun σ' H' s' J' q => ?_
 obtain ⟨m, hn, _⟩ := J'.loc
 exact ⟨m, hn, fun h'' sb => ⟨.ref s2.heap.objs.size, H', comp_go I2 J' (comp_back I2 f2 J') sb, rfl, q⟩⟩
theorem ps_lc {i : Nat} {x : Str} {px : Pos} (Nc : List Str) (fm : List (Option Nat)) (hN : X.N.Nodup) (hi' : X.N[i]? = some x) (hx : Loc X.env.scope x) (hc : X.calm = true) (hk : captOk X.N X.env.scope Nc scope fm = true) (hi : PI X tg iter wi)
  (hg : ∀ cl C s₁ H₁ fp, PG (cxComp X Nc scope cl C s₁ H₁ fp) tg g) (ht : ∀ cl C s₁ H₁ fp, PTs (cxComp X Nc scope cl C s₁ H₁ fp) ifs tt) (he : ∀ cl C s₁ H₁ fp, PE (cxComp X Nc scope cl C s₁ H₁ fp) elt te)
  (hsw : swapsWith (.ListComp elt [⟨tg, iter, ifs, 0⟩] scope pos) (some (.Name x px)) spos.line X.env = pure true := by rfl)
  (hs : ∀ x, foldedSetIterable iter X.env x = pure x := by intro _; rfl) (hf : X.fn x = true \/ X.env.scope.names.lookup x = some .local := by first | exact .inl rfl | exact .inr rfl | assumption) :
  PS X (.Assign [.Name x px] (.ListComp elt [⟨tg, iter, ifs, 0⟩] scope pos) spos) (tAsg (tComp fm wi g tt te) (gName i)) := by
 intro pins s σ H D I h
 have c := captOk.capt hk
 rw [exec_Assign_Name_used _ _ _ _ hsw]
 refine wpAny_bind (wpAny_standAt (wpAny_bind ?_))
 show wpAny _ X.A (do let _ <- comprehension (.ListComp elt [⟨tg, iter, ifs, 0⟩] scope pos) scope X.env _ (newList []) false (eval iter X.env) (some (assign (.Name x px) X.env))) _ _ s
 refine wpAny_bind (wpAny_mono (wpAny_comprehension_free (use := some (assign (.Name x px) X.env)) (Q := fun _ s' => SP X pins D .next s') rfl hs (closureFor_eq fun y hy e => I.ok.has y.1 (c.free y hy e)) c.kind c.names
  (thn (hi pins s σ H _ I h) fun v s1 h1 => thn h1 fun itv s2 h2 => ?_)) (fun _ s' hq => wpAny_pure (wpAny_pure hq)) fun _ _ e => e)
 obtain ⟨it, fp, tn, J, H2, e, I2, T, st2, f2, h⟩ := h2
 subst e
 refine comp_block (Q := fun v H' => gName i v σ H' D.nx) (RR := fun acc C => compPost (model X.prog X.w) X.A X.xe (some (assign (.Name x px) X.env)) (fun _ s' => SP X pins D .next s') acc C) hc c I2 T st2 f2 hg ht he h fun σ' H' s' J' q => ?_
 obtain ⟨m, hn, _⟩ := J'.loc
 have IB := comp_back I2 f2 J'
 show wpAny _ X.A (assign (.Name x px) X.env _) _ _ _
 refine wpAny_assign_Name (store_ok2 (v := .ref s2.heap.objs.size) IB hN hi' hx rfl (fun s'' I'' zz0 => ?_) hf)
 obtain ⟨a, sa, ha⟩ := zz0
 have hle : s2.heap.objs.size <= s2.heap.objs.size + 1 := Nat.le_succ _
 have hne : s2.heap.objs.size + 1 ≠ a := by
  rcases ha with rfl | ha
  ·exact Nat.ne_of_gt (Nat.lt_of_lt_of_le I2.lt hle)
  ·obtain ⟨v, q⟩ := I2.cell x a ha
   exact Nat.ne_of_gt (Nat.lt_of_lt_of_le q.lt hle)
 exact ⟨m, hn.sameBut sa hne, fun h'' sb => ⟨_, H', comp_go I2 J' I'' sb, q⟩⟩
end
end L2
namespace L2
open PySem PySem.Spec PyProof.Rows
section
variable {X : Cx}
theorem ix_tupK (K : PySem.W.Frag) (h : X.K = K := by rfl) : IxR X (rIxT K) := by subst h; exact ix_tup
theorem ix_listK (K : PySem.W.Frag) (h : X.K = K := by rfl) : IxR X (rIxL K) := by subst h; exact ix_list
theorem op_inK (K : PySem.W.Frag) (h : X.K = K := by rfl) : OpR X (compareOp .In) (rIn K false) := by subst h; exact op_in_seq
theorem op_notInK (K : PySem.W.Frag) (h : X.K = K := by rfl) : OpR X (compareOp .NotIn) (rIn K true) := by subst h; exact op_notIn_seq
noncomputable def rLen (K : PySem.W.Frag) : List V -> Hp -> VK -> Prop := fun xs H Q => ∃ p ys, xs = [.ref p] /\ (SqL K H p ys \/ SqT K H p ys) /\ Q (.int ys.length) H
theorem call_lenK (K : PySem.W.Frag) (h : X.K = K := by rfl) : CallR X (.builtin "len") (rLen K) := by subst h; exact call_len_seq
theorem pi_tupK {tg l : Expr} {tl : TE} (K : PySem.W.Frag) (hl : PE X l tl) (h : X.K = K := by rfl) : PI X tg l (iTup K tl) := by subst h; exact pi_tup hl
theorem pi_listK {tg l : Expr} {tl : TE} (K : PySem.W.Frag) (hl : PE X l tl) (h : X.K = K := by rfl) : PI X tg l (iList K tl) := by subst h; exact pi_list hl
noncomputable def eqVs (xs ys : List V) : Bool := decide (xs.length = ys.length) && (xs.zip ys).all fun p => eqV p.1 p.2
theorem eqV_refl {x : V} (h : flatV x = true) : eqV x x = true := by
 cases x <;> simp_all [eqV, flatV]
theorem eqVs_refl : ∀ {xs : List V}, xs.all flatV = true -> eqVs xs xs = true
 | [], _ => rfl
 | x :: xs, h => by
  rw [List.all_cons, Bool.and_eq_true] at h
  have ih := eqVs_refl h.2
  unfold eqVs at ih ⊢
  simp only [decide_true, Bool.true_and] at ih ⊢
  rw [List.zip_cons_cons, List.all_cons, eqV_refl h.1, ih]
  rfl
theorem range_eqVs {xs ys : List V} (hl : xs.length = ys.length) : (List.range xs.length).all (fun j => match xs[j]?, ys[j]? with | some a, some b => eqV a b | _, _ => false) = eqVs xs ys := by
 unfold eqVs
 rw [decide_eq_true hl, Bool.true_and, Bool.eq_iff_iff, List.all_eq_true, List.all_eq_true]
 constructor
 ·intro h p hp
  obtain ⟨i, hi, rfl⟩ := List.mem_iff_getElem.mp hp
  rw [List.length_zip] at hi
  have := h i (List.mem_range.mpr (by exact Om.k171 hl hi))
  have h1 : i < xs.length := by exact Om.k171 hl hi
  have h2 : i < ys.length := by exact Om.a2 ‹_› ‹_›
  simpa [h1, h2] using this
 ·intro h i hi
  have h1 := List.mem_range.mp hi
  have h2 : i < ys.length := by exact Om.a2 ‹_› ‹_›
  have hi' : i < (xs.zip ys).length := by rw [List.length_zip]; exact Om.k170 hl h1
  have := h ((xs.zip ys)[i]) (List.getElem_mem hi')
  simpa [h1, h2] using this
theorem listEqAt {A : Around} {s : Shared} {xs ys : List V} {its its2 : List Value} (r1 : Vals xs its) (r2 : Vals ys its2) (f1 : xs.all flatV = true) (f2 : ys.all flatV = true) : ∀ j (h1 : j < its.toArray.size) (h2 : j < its2.toArray.size),
  SeqAt.EqAt A s its.toArray[j] its2.toArray[j] (match xs[j]?, ys[j]? with | some a, some b => eqV a b | _, _ => false) := fun j h1 h2 => by
 have l1 := r1.length
 have l2 := r2.length
 rw [List.size_toArray] at h1 h2
 have hx : xs[j]? = some (xs[j]'(by exact Om.a1 ‹_› ‹_›)) := by simp
 have hy : ys[j]? = some (ys[j]'(by exact Om.a1 ‹_› ‹_›)) := by simp
 obtain ⟨u, hu, ru⟩ := r1.get hx
 obtain ⟨v, hv, rv⟩ := r2.get hy
 have e1 : its.toArray[j] = u := by
  have : its[j]? = some its[j] := by simp [h1]
  rw [this] at hu
  simpa using Option.some.inj hu
 have e2 : its2.toArray[j] = v := by
  have : its2[j]? = some its2[j] := by simp [h2]
  rw [this] at hv
  simpa using Option.some.inj hv
 rw [e1, e2, hx, hy]
 exact eqAt_V ru rv (List.all_eq_true.mp f1 _ (List.getElem_mem _)) (List.all_eq_true.mp f2 _ (List.getElem_mem _))
inductive RLLI (K : PySem.W.Frag) (neg : Bool) (x : V) (y : V) (H : Hp) (Q : VK) : Prop where
 | mk (a : Addr) (b : Addr) (xs : List V) (ys : List V) (_ : x = .ref a) (_ : y = .ref b) (_ : SqL K H a xs) (_ : SqL K H b ys) (_ : ((xs.all flatV = true /\ ys.all flatV = true) \/ xs.length ≠ ys.length)) (_ : Q (.bl (if neg then !eqVs xs ys else eqVs xs ys)) H) : RLLI K neg x y H Q
noncomputable def rLL (K : PySem.W.Frag) (neg : Bool) : R2 := fun x y H Q => RLLI K neg x y H Q
theorem op_eqL (hu : X.A.units < cLine) (K : PySem.W.Frag) (hK : X.K = K := by rfl) : OpR X (compareOp .Eq) (rLL K false) := by
 subst hK
 intro pins s σ H x y v u Q I rx ry h
 obtain ⟨a, b, xs, ys, rfl, rfl, h1, h2, hf, q⟩ := h
 cases rx
 cases ry
 obtain ⟨its, r1, p1, z1⟩ := I.list h1
 obtain ⟨its2, r2, p2, z2⟩ := I.list h2
 have l1 := r1.length
 have l2 := r2.length
 by_cases hl : xs.length = ys.length
 ·have hf' := hf.resolve_right (fun z => z hl)
  refine SeqAt.eq_listAt p1.isList p2.isList (by rw [List.size_toArray, List.size_toArray]; exact Om.k169 l1 l2 hl) hu (listEqAt r1 r2 hf'.1 hf'.2) ⟨.bl _, H, I, rfl, ?_⟩
  rw [List.size_toArray, <- l1, range_eqVs hl]
  exact q
 ·have e : eqVs xs ys = false := by unfold eqVs; rw [decide_eq_false hl, Bool.false_and]
  refine SeqAt.eq_list_lengthsAt p1.isList p2.isList (by simp only [List.size_toArray, bne_iff_ne]; exact Om.k168 l1 l2 hl) hu ⟨.bl _, H, I, rfl, ?_⟩
  rw [<- e]
  exact q
theorem op_neL (hu : X.A.units < cLine) (K : PySem.W.Frag) (hK : X.K = K := by rfl) : OpR X (compareOp .NotEq) (rLL K true) := by
 subst hK
 intro pins s σ H x y v u Q I rx ry h
 obtain ⟨a, b, xs, ys, rfl, rfl, h1, h2, hf, q⟩ := h
 cases rx
 cases ry
 obtain ⟨its, r1, p1, z1⟩ := I.list h1
 obtain ⟨its2, r2, p2, z2⟩ := I.list h2
 have l1 := r1.length
 have l2 := r2.length
 by_cases hl : xs.length = ys.length
 ·have hf' := hf.resolve_right (fun z => z hl)
  refine SeqAt.RcNeAt.lists p1.isList p2.isList (by rw [List.size_toArray, List.size_toArray]; exact Om.k169 l1 l2 hl) hu (listEqAt r1 r2 hf'.1 hf'.2) _ _ _ _ ⟨.bl _, H, I, rfl, ?_⟩
  rw [List.size_toArray, <- l1, range_eqVs hl]
  exact q
 ·have e : eqVs xs ys = false := by unfold eqVs; rw [decide_eq_false hl, Bool.false_and]
  refine SeqAt.RcNeAt.lists_lengths p1.isList p2.isList (by simp only [List.size_toArray, bne_iff_ne]; exact Om.k168 l1 l2 hl) hu _ _ _ _ ⟨.bl _, H, I, rfl, ?_⟩
  have q' : Q (.bl (!eqVs xs ys)) H := q
  rw [e] at q'
  exact q'
noncomputable def rIsI (K : PySem.W.Frag) : List V -> Hp -> VK -> Prop := fun xs H Q => ∃ x T t b, xs = [x, .ty T] /\ TyOf K H x t /\ PySem.W.kitOne K t (.type T) = some b /\ Q (.bl b) H
theorem call_isinst (K : PySem.W.Frag) (hK : X.K = K := by rfl) : CallR X (.builtin "isinstance") (rIsI K) := by
 subst hK
 intro pins s σ H xs us Q I r h
 obtain ⟨x, T, t, b, rfl, ty, e, q⟩ := h
 obtain ⟨u, v, rfl, rx, ry⟩ := vals2 r
 cases ry
 exact isinst_ok I rx ty e fun tk => ⟨.bl b, H, I.tok tk, rfl, q⟩
end
structure Wlk (J : It) (xs : List V) (P : Hp -> Prop) : Prop where
 go : ∀ i H, P H -> i < xs.length -> J.go i H
 yld : ∀ i H x H', P H -> J.yld i H x H' -> i < xs.length -> H' = H /\ xs[i]? = some x
 stop : ∀ i H, P H -> xs.length <= i -> J.stop i H
theorem wlk_tup {K : PySem.W.Frag} {a : Addr} {xs : List V} : Wlk (Itt K a) xs (fun H => SqT K H a xs) :=
 ⟨fun i H h hi => ⟨xs, xs[i], h, by simp [hi]⟩, fun i H x H' h y _ => ⟨y.1, y.2 xs h⟩, fun i H h hi => ⟨xs, h, hi⟩⟩
theorem wlk_list {K : PySem.W.Frag} {a : Addr} {xs : List V} : Wlk (Itl K a) xs (fun H => SqL K H a xs) :=
 ⟨fun i H h hi => ⟨xs, xs[i], h, by simp [hi]⟩, fun i H x H' h y _ => ⟨y.1, y.2 xs h⟩, fun i H h hi => ⟨xs, h, hi⟩⟩
noncomputable def rng (n : Nat) : List V := (List.range n).map fun i : Nat => V.int (i : Int)
theorem rng_len (n : Nat) : (rng n).length = n := by unfold rng; rw [List.length_map, List.length_range]
theorem rng_at {n i : Nat} (h : i < n) : (rng n)[i]? = some (.int (i : Int)) := by
 unfold rng
 rw [List.getElem?_map, List.getElem?_range h]
 rfl
theorem rng_get {n i : Nat} {x : V} (h : (rng n)[i]? = some x) : i < n /\ x = .int (i : Int) := by
 have hi : i < n := by
  have := (List.getElem?_eq_some_iff.mp h).1
  rwa [rng_len] at this
 rw [rng_at hi] at h
 exact ⟨hi, (Option.some.inj h).symm⟩
theorem rng_flat (n : Nat) : (rng n).all flatV = true := by
 unfold rng
 rw [List.all_map]
 exact List.all_eq_true.mpr fun _ _ => rfl
theorem wlk_range {n : Nat} : Wlk (Itr 0 n) (rng n) (fun _ => True) :=
 ⟨fun i H _ hi => by rw [rng_len] at hi; exact hi, fun i H x H' _ y hi => by
  rw [rng_len] at hi
  obtain ⟨e, rfl⟩ := y
  refine ⟨e, ?_⟩
  rw [rng_at hi, Int.zero_add], fun i H _ hi => by rw [rng_len] at hi; exact hi⟩
noncomputable def compBody (g : TG) (tt : TT) (te : TE) (x : V) (σ : St) (H : Hp) (R : Option V -> St -> Hp -> Prop) : Prop :=
 g x σ H fun σ3 H3 => tt σ3 H3 fun b H4 => if b = true then te σ3 H4 fun y H5 => R (some y) σ3 H5 else R none σ3 H4
theorem comp_of {J : It} {xs : List V} {P : Hp -> Prop} {g : TG} {tt : TT} {te : TE} {l : Addr} {QL : Hp -> Prop} {σ0 : St} {H0 : Hp} (Wk : Wlk J xs P) (Pv : Nat -> List V -> St -> Hp -> Prop) (h0 : Pv 0 [] σ0 H0)
    (hP : ∀ i ys σ H, Pv i ys σ H -> P H /\ H l = some (.lst ys))
    (hs : ∀ i x ys σ H, xs[i]? = some x -> Pv i ys σ H -> compBody g tt te x σ H fun o σ3 H5 => match o with
      | some y => H5 l = some (.lst ys) /\ ys.length < sizeLine /\ Pv (i + 1) (ys ++ [y]) σ3 (upd H5 l (.lst (ys ++ [y])))
      | none => Pv (i + 1) ys σ3 H5)
    (hd : ∀ ys σ H, Pv xs.length ys σ H -> QL H) :
    ∃ W : Nat -> Nat -> List V -> St -> Hp -> Prop, (∃ m, W 0 m [] σ0 H0) /\
    ∀ i m ys σ' H', W i m ys σ' H' -> H' l = some (.lst ys) /\
      ((J.stop i H' /\ QL H') \/
       (J.go i H' /\ ∃ N : List V -> St -> Hp -> Prop, (∀ zs σ2 H2, N zs σ2 H2 -> ∃ m', m' < m /\ W (i + 1) m' zs σ2 H2) /\ ∀ x H2, J.yld i H' x H2 -> g x σ' H2 fun σ3 H3 => tt σ3 H3 fun b H4 =>
          if b = true then te σ3 H4 fun y H5 => H5 l = some (.lst ys) /\ ys.length < sizeLine /\ N (ys ++ [y]) σ3 (upd H5 l (.lst (ys ++ [y])))
          else N ys σ3 H4)) := by
  refine ⟨fun i m ys σ H => m = xs.length - i /\ i <= xs.length /\ Pv i ys σ H, ⟨xs.length, by simp, Nat.zero_le _, h0⟩, ?_⟩
  rintro i m ys σ H ⟨rfl, hi, p⟩
  obtain ⟨hp, hl⟩ := hP i ys σ H p
  refine ⟨hl, ?_⟩
  by_cases hlt : i < xs.length
  · refine .inr ⟨Wk.go i H hp hlt, fun zs σ2 H2 => Pv (i + 1) zs σ2 H2, fun zs σ2 H2 n => ⟨xs.length - (i + 1), by exact Om.k157 hlt, rfl, hlt, n⟩, fun x H2 y => ?_⟩
    obtain ⟨e, hx⟩ := Wk.yld i H x H2 hp y hlt
    subst e
    exact hs i x ys σ _ hx p
  · have e : i = xs.length := by exact Om.k156 hi hlt
    subst e
    exact .inl ⟨Wk.stop _ H hp (Nat.le_refl _), hd ys σ H p⟩
theorem Same.upd_new {H H' : Hp} {l : Addr} {o : HO} (e : Same H H') (h : H l = none) : Same H (upd H' l o) := fun b u q => by
 rw [upd_ne (ne_of_none q h)]
 exact e b u q
theorem Same.new {H : Hp} {l : Addr} {o : HO} (h : H l = none) : Same H (upd H l o) := (Same.refl H).upd_new h
theorem range_filterMap {β : Type} {F : Nat -> Option β} {i : Nat} : (List.range (i + 1)).filterMap F = (List.range i).filterMap F ++ (F i).toList := by
 rw [List.range_succ, List.filterMap_append]
 cases e : F i <;> simp [e]
theorem filterMap_len {β : Type} {F : Nat -> Option β} {i : Nat} : ((List.range i).filterMap F).length <= i := by
 have h := List.length_filterMap_le F (List.range i)
 rw [List.length_range] at h
 exact h
theorem filterMap_some {α β : Type} (h : α -> β) (l : List α) : (l.filterMap fun i => some (h i)) = l.map h := by
 induction l with
 | nil => rfl
 | cons a l ih => rw [List.filterMap_cons, List.map_cons, ih]
theorem comp_pure {J : It} {xs : List V} {P : Hp -> Prop} {g : TG} {tt : TT} {te : TE} {l : Addr} {QL : Hp -> Prop} {σ0 : St} {H1 : Hp} (F : Nat -> Option V) (S : St -> Prop) (Wk : Wlk J xs P) (hz : xs.length <= sizeLine) (hl : H1 l = none)
    (hPm : ∀ H, Same H1 H -> P H) (hS : S σ0)
    (hs : ∀ i x σ H (R : Option V -> St -> Hp -> Prop), xs[i]? = some x -> S σ -> Same H1 H -> (∀ σ' H', S σ' -> Same H H' -> R (F i) σ' H') -> compBody g tt te x σ H R)
    (hd : ∀ H, Same H1 H -> H l = some (.lst ((List.range xs.length).filterMap F)) -> QL H) :
    ∃ W : Nat -> Nat -> List V -> St -> Hp -> Prop, (∃ m, W 0 m [] σ0 (upd H1 l (.lst []))) /\
    ∀ i m ys σ' H', W i m ys σ' H' -> H' l = some (.lst ys) /\
      ((J.stop i H' /\ QL H') \/
       (J.go i H' /\ ∃ N : List V -> St -> Hp -> Prop, (∀ zs σ2 H2, N zs σ2 H2 -> ∃ m', m' < m /\ W (i + 1) m' zs σ2 H2) /\ ∀ x H2, J.yld i H' x H2 -> g x σ' H2 fun σ3 H3 => tt σ3 H3 fun b H4 =>
          if b = true then te σ3 H4 fun y H5 => H5 l = some (.lst ys) /\ ys.length < sizeLine /\ N (ys ++ [y]) σ3 (upd H5 l (.lst (ys ++ [y])))
          else N ys σ3 H4)) := by
  refine comp_of Wk (fun i ys σ H => Same H1 H /\ H l = some (.lst ys) /\ S σ /\ ys = (List.range i).filterMap F) ⟨Same.new hl, upd_same, hS, rfl⟩ (fun i ys σ H p => ⟨hPm H p.1, p.2.1⟩) ?_ ?_
  · rintro i x ys σ H hx ⟨sm, hl', hσ, rfl⟩
    refine hs i x σ H _ hx hσ sm fun σ' H' hσ' sm' => ?_
    have hi : i < xs.length := (List.getElem?_eq_some_iff.mp hx).1
    cases e : F i with
    | none =>
      refine ⟨sm.trans sm', sm' _ _ hl', hσ', ?_⟩
      rw [range_filterMap, e]
      simp
    | some y =>
      refine ⟨sm' _ _ hl', ?_, (sm.trans sm').upd_new hl, upd_same, hσ', ?_⟩
      · have h1 := filterMap_len (F := F) (i := i)
        omega
      · rw [range_filterMap, e]
        rfl
  · rintro ys σ H ⟨sm, hl', hσ, rfl⟩
    exact hd H sm hl'
theorem Paired.getL {α β : Type} {F : α -> β -> Prop} : ∀ {l₁ : List α} {l₂ : List β} {i : Nat} {a : α}, Paired F l₁ l₂ -> l₁[i]? = some a -> ∃ b, l₂[i]? = some b /\ F a b
 | _, _, _, _, .nil, e => by simp at e
 | _, _, 0, _, .cons r _, e => by simp at e; subst e; exact ⟨_, rfl, r⟩
 | _, _, i + 1, a, .cons _ t, e => by
  obtain ⟨u, h1, h2⟩ := Paired.getL (i := i) (a := a) t (by simpa using e)
  exact ⟨u, by simpa using h1, h2⟩
theorem Paired.getR {α β : Type} {F : α -> β -> Prop} : ∀ {l₁ : List α} {l₂ : List β} {i : Nat} {b : β}, Paired F l₁ l₂ -> l₂[i]? = some b -> ∃ a, l₁[i]? = some a /\ F a b
 | _, _, _, _, .nil, e => by simp at e
 | _, _, 0, _, .cons r _, e => by simp at e; subst e; exact ⟨_, rfl, r⟩
 | _, _, i + 1, b, .cons _ t, e => by
  obtain ⟨u, h1, h2⟩ := Paired.getR (i := i) (b := b) t (by simpa using e)
  exact ⟨u, by simpa using h1, h2⟩
theorem atI_of {xs : List V} {i : Nat} {v : V} (h : xs[i]? = some v) : atI xs (i : Int) = some v := atI_nat h
theorem small6 {n : Nat} (h : n <= 1000) : n <= sizeLine := Nat.le_of_lt (small1000 h)
theorem map_ints_flat (ns : List Int) : (ns.map V.int).all flatV = true := by
 rw [List.all_map]
 exact List.all_eq_true.mpr fun _ _ => rfl
theorem Paired.append {α β : Type} {F : α -> β -> Prop} : ∀ {l₁ m₁ : List α} {l₂ m₂ : List β}, Paired F l₁ l₂ -> Paired F m₁ m₂ -> Paired F (l₁ ++ m₁) (l₂ ++ m₂)
 | _, _, _, _, .nil, s => s
 | _, _, _, _, .cons r t, s => .cons r (Paired.append t s)
theorem bt_isin : bootBuiltins "isinstance" = some (Value.builtin "isinstance") := by decide +kernel
theorem bt_list : bootBuiltins "list" = some (Value.type "list") := by decide +kernel
theorem bt_tuple : bootBuiltins "tuple" = some (Value.type "tuple") := by decide +kernel
theorem bt_int : bootBuiltins "int" = some (Value.type "int") := by decide +kernel
theorem bt_bool : bootBuiltins "bool" = some (Value.type "bool") := by decide +kernel
theorem pg_c {X : Cx} {Nc : List Str} {scope : Scope} {cl : List (Str × Addr)} {C : Addr} {s₁ : Shared} {H₁ : Hp} {fp : List Addr} (i : Nat) {x : Str} {pos : Pos} (hN : Nc.Nodup := by decide +kernel) (hi : Nc[i]? = some x := by rfl)
  (hx : (relabel scope X.env).names.lookup x = some .local := by rfl) : PG (cxComp X Nc scope cl C s₁ H₁ fp) (.Name x pos) (gName i) := pg_name hN hi (.inl hx) (.inr hx)
end L2
namespace L2
open PySem PySem.Spec PyProof.Rows
structure Flies (P : Program) (w : World) (outer : List Env) (H : Hp) (s : Shared) (e : Addr) (cls a0 : Value) (H' : Hp) (B : Heap) (s' : Shared) : Prop where
 os : s'.os = s.os
 bare : AllBare s'.gens
 fly : Heap.FlyingW B outer e cls a0 s'.heap
 keep : ∀ b o, s.heap.get? b = some o -> H b = none -> b ∉ frs outer -> B.get? b = some o
 slot : ∀ b o, s.heap.get? b = some o -> H b = none -> b ∈ frs outer -> ∃ sl, s'.heap.get? b = some { o with slots := sl }
 free : ∀ b o, s.heap.get? b = some o -> H b = none -> H' b = none
 there : ∀ b o, s.heap.get? b = some o -> b ∉ frs outer -> ∃ o', B.get? b = some o'
 tups : ∀ b xs, H b = some (.tup xs) -> H' b = some (.tup xs)
 frzs : ∀ b o u, H b = some (.frz o u) -> H' b = some (.frz o u)
 tbls : ∀ b ps, H b = some (.tbl ps) -> ∃ more, H' b = some (.tbl (ps ++ more))
 hok : HOk P w H' B
noncomputable def CX1 (P : Program) (w : World) : CXT := fun outer H s E v s' => ∃ (e : Addr) (cls a0 : Value) (H' : Hp) (B : Heap), v = .ref e /\ Flies P w outer H s e cls a0 H' B s' /\ E cls none H'
section
variable {P : Program} {w : World} {outer : List Env} {H H' : Hp} {s s' s'' : Shared} {e : Addr} {cls a0 : Value} {B : Heap}
theorem Flies.on (x : Flies P w outer H s e cls a0 H' B s') (fl : Heap.FlyingW B outer e cls a0 s''.heap) (up : s'.heap.UpToSlots s''.heap) (ho : s''.os = s'.os) (hg : AllBare s''.gens) : Flies P w outer H s e cls a0 H' B s'' :=
 ⟨ho.trans x.os, hg, fl, x.keep, fun b o q n hb => by
  obtain ⟨sl, q1⟩ := x.slot b o q n hb
  obtain ⟨_, o2, q2, d2⟩ := x.fly.2.2.1.mem hb
  rw [q1] at q2
  cases q2
  obtain ⟨sl2, q3⟩ := up b _ q1 d2
  exact ⟨sl2, q3⟩, x.free, x.there, x.tups, x.frzs, x.tbls, x.hok⟩
theorem Flies.un (x : Flies P w outer H s e cls a0 H' B s') : Un (frs outer) [] H H' s.heap s'.heap :=
 ⟨fun b o q n hb _ => x.fly.1 b o (x.keep b o q n hb), fun b o q n hb _ => x.slot b o q n hb, fun b o q n _ => x.free b o q n, fun b o q _ => by
  by_cases hb : b ∈ frs outer
  ·obtain ⟨_, o2, q2, _⟩ := x.fly.2.2.1.mem hb
   exact ⟨o2, q2⟩
  ·obtain ⟨o2, q2⟩ := x.there b o q hb
   exact ⟨o2, x.fly.1 b o2 q2⟩, x.tups, x.frzs, x.tbls⟩
theorem Flies.hokH (x : Flies P w outer H s e cls a0 H' B s') : HOk P w H' s'.heap := x.hok.kept x.fly.1
end
theorem Inv.flown {X : Cx} {pins : List (Addr × Obj)} {σ : St} {H H' : Hp} {s s' : Shared} {e : Addr} {cls a0 : Value} {B : Heap} (I : Inv X pins σ H s) (x : Flies X.prog X.w X.stack H s e cls a0 H' B s') : Inv X pins σ H' s' :=
 I.call' (ch := []) x.os x.un x.hokH x.bare fun b z => absurd z (by simp)
theorem exc_obj {K : PySem.W.Frag} {h : Heap} {C : Addr} {bmB : List Value} {newId : String} (X : K.In h) (q : PySem.W.excIn K C bmB newId = true) :
  ∃ bm N nm qn bs hdct sn sub ab col dd k0 k1 k2 k3 k5 mN, h.get? C = some (excClassObj nm qn C N bs bm hdct sn sub ab col dd k0 k1 k2 k3 k5 newId) /\ h.Ns N mN /\ mN "__init__" = none /\ OwnTail h bmB bm := by
 unfold PySem.W.excIn at q
 split at q
 ·next dd cd sl ho =>
  split at q
  ·next C' bm k0 k1 k2 k3 n k5 hm hs =>
   simp only [Bool.and_eq_true, beq_iff_eq, Bool.not_eq_true'] at q
   obtain ⟨⟨⟨⟨⟨e1, e2⟩, hdel⟩, ht⟩, hnk⟩, hni⟩ := q
   subst e1 e2
   obtain ⟨nm, bs, mro, ns, qn, hd, sn, sub, ab, col, del⟩ := cd
   dsimp only at hm hdel hnk hni
   subst hm hdel
   have esl : sl = #[k0, k1, k2, k3, some (.builtin n), k5] := by
    cases sl
    simp only at hs
    rw [hs]
   subst esl
   exact ⟨bm, ns, nm, qn, bs, hd, sn, sub, ab, col, dd, k0, k1, k2, k3, k5, _, X _ _ ho, Heap.Ns.of_isNs (PySem.W.isNs_of_in X hnk), PySem.W.nsMap_none_of_in X hnk hni, PySem.W.tail_of_in X ht⟩
  ·cases q
 ·cases q
section
variable {P : Program} {w : World} {K : PySem.W.Frag} {mg : Str -> Option Value} {base : Heap} {N : List Str} {qual : Str} {scope : Scope} {f : Addr} {cd : Value} {A : Around} {outer : List Env} {s₀ : Shared} {H₀ : Hp} {E : XK}
theorem ps_raise {x : Str} {np cpos pos : Pos} {C : Addr} {bmB : List Value} {Bn newId initId : String} (hg : Gl (cxOf (CX1 P w) P w K mg base N qual scope f cd A outer s₀ H₀ E) x) (hm : mg x = some (.ref C)) (ex : PySem.W.excIn K C bmB newId = true)
  (F : ExcBaseFacts Bn newId initId bmB) (hdb : (x == ("__debug__" : Str)) = false := by decide) :
  PS (cxOf (CX1 P w) P w K mg base N qual scope f cd A outer s₀ H₀ E) (.Raise (some (.Call (.Name x np) [] [] cpos)) none pos) (fun _ _ H => E (.ref C) none H) := by
 intro pins s σ H D I h
 obtain ⟨bm, Nn, nm, qn, bs, hdct, sn, sub, ab, col, dd, k0, k1, k2, k3, k5, mN, hC, hN, hni, T⟩ := exc_obj I.kIn ex
 refine wpAny_Raise_call_subT (C := C) F (T.hasType F.hasBase) (I.ok.hd rfl) rfl hni (ld_glob I hg hm ⟨rfl, evalArgs_empty ⟨rfl, Nat.zero_le _, hC, hN, T, fun h' e hx => ?_⟩⟩ hdb)
 have hin : ∀ env ∈ (cxOf (CX1 P w) P w K mg base N qual scope f cd A outer s₀ H₀ E).stack, ∀ b, env.frame = some b -> b ∈ frs (cxOf (CX1 P w) P w K mg base N qual scope f cd A outer s₀ H₀ E).stack := fun env he b hb => List.mem_filterMap.mpr ⟨env, he, hb⟩
 have nfr : ∀ b o, s₀.heap.get? b = some o -> b ∉ frs outer -> b ∉ frs (cxOf (CX1 P w) P w K mg base N qual scope f cd A outer s₀ H₀ E).stack := fun b o q hb z => by
  rcases List.mem_cons.mp (I.stkSub b z) with z | z
  ·exact absurd (Nat.lt_of_lt_of_le (Heap.lt_size q) (by rw [z]; exact I.ok.above)) (Nat.lt_irrefl _)
  ·exact hb z
 refine wpAny_leaves_madeW (base := PySem.W.hideAll s.heap (frs (cxOf (CX1 P w) P w K mg base N qual scope f cd A outer s₀ H₀ E).stack)) (h := s.heap) I.ok.frames rfl (fun b o q => PySem.W.of_hideAll _ q) (PySem.W.funFrames_hide I.stack hin) hx fun h'' t fl _ _ up => ?_
 refine ⟨e, .ref C, .ref t, H, _, rfl, ⟨I.os, I.bare, fl, fun b o q n hb => ?_, fun b o q n hb => ?_, fun b o q n => I.base.free b o q n (by simp [cxOf]), fun b o q hb => ?_, I.base.tups, I.base.frzs, I.base.tbls, fun a o q => ?_⟩, h⟩
 ·exact PySem.W.hideAll_get _ (I.base.keep b o q n hb (by simp [cxOf])) (nfr b o q hb)
 ·obtain ⟨sl, q1⟩ := I.base.slot b o q n hb (by simp [cxOf])
  obtain ⟨_, o2, q2, d2⟩ := I.funs.mem hb
  rw [q1] at q2
  cases q2
  obtain ⟨sl2, q3⟩ := up b _ (hx.keeps b _ q1) d2
  exact ⟨sl2, q3⟩
 ·obtain ⟨o', q1⟩ := I.base.there b o q (by simp [cxOf])
  exact ⟨o', PySem.W.hideAll_get _ q1 (nfr b o q hb)⟩
 ·refine (I.hok a o q).stay (fun b u hb q1 => PySem.W.hideAll_get _ q1 fun z => ?_) (fun _ z => z) fun _ _ z => z
  have z1 := I.stkFree b z
  rcases hb with rfl | hb
  ·rw [q] at z1
   cases z1
  ·rw [hb] at z1
   cases z1
theorem Fun.okX {x qual : Str} {st : Stmt} {f : Addr} {fd : FuncData} {N ps : List Str} {k : Nat} {sp : Sp} (F : Fun K x qual st f fd) (S : FnScope N ps (defScope st)) (len : ∀ vs H Q E, sp vs H Q E -> vs.length = ps.length)
  (hbody : ∀ (cdv : Value) (A : Around) (outer : List Env) (s : Shared) (H : Hp) (vs : List V) (Q : VK) (E : XK), Room k (A.deeper (envOfC qual (defScope st) s.heap.objs.size f cdv)) -> sp vs H Q E ->
   ∃ t, PSs (cxOf (CX1 P w) P w K mg base N qual (defScope st) f cdv A outer s H E) (defBody st) t /\ t { nx := fun _ H' => Q .non H', rt := Q } (start N vs) H) : FnOk P w K mg base (CX1 P w) (k + 1) f fd ps sp := by
 obtain ⟨oc, od, kV, doc, pm, an, cdv, ct, osl, rfl, lk, hcd⟩ := F.ex
 exact fn_of lk hcd S len fun A outer s H vs Q E hr hsp => hbody cdv A outer s H vs Q E hr hsp
end
noncomputable abbrev Cx.tryIn (X : Cx) (pins : List (Addr × Obj)) (xe : Value -> Shared -> Prop) : Cx := { X with pn := X.pn ++ pins, xe := xe }
theorem Cx.Ok.tryIn {X : Cx} (ok : X.Ok) (pins : List (Addr × Obj)) (xe : Value -> Shared -> Prop) : (X.tryIn pins xe).Ok :=
 ⟨ok.mod, ok.kind, ok.glob, ok.blt, ok.above, ok.inj, ok.has, ok.cab, ok.hd, ok.frames, ok.stk, ok.exf, ok.bs, ok.bsz, ok.noex, ok.exfs, ok.funs, ok.frf⟩
theorem Cx.Ok.untry {X : Cx} {pins : List (Addr × Obj)} {xe : Value -> Shared -> Prop} (ok : (X.tryIn pins xe).Ok) : X.Ok :=
 ⟨ok.mod, ok.kind, ok.glob, ok.blt, ok.above, ok.inj, ok.has, ok.cab, ok.hd, ok.frames, ok.stk, ok.exf, ok.bs, ok.bsz, ok.noex, ok.exfs, ok.funs, ok.frf⟩
section
variable {X : Cx} {pins ps' : List (Addr × Obj)} {σ : St} {H : Hp} {s : Shared} {xe : Value -> Shared -> Prop}
theorem Inv.tryIn (I : Inv X pins σ H s) (xe : Value -> Shared -> Prop) : Inv (X.tryIn pins xe) [] σ H s :=
 ⟨I.ok.tryIn pins xe, I.os, I.bare, I.base, I.loc, I.cell, I.free, I.freeC, fun p hp => I.pin p (by rw [List.append_nil] at hp; exact hp), I.hok, I.len⟩
theorem Inv.untry (I : Inv (X.tryIn pins xe) ps' σ H s) : Inv X pins σ H s :=
 ⟨I.ok.untry, I.os, I.bare, I.base, I.loc, I.cell, I.free, I.freeC, fun p hp => I.pin p (List.mem_append_left _ hp), I.hok, I.len⟩
theorem SP.untry {D : Ends} {f : Flow} (h : SP (X.tryIn pins xe) ps' D f s) : SP X pins D f s := by
 cases f with
 | next => obtain ⟨σ', H', I, q⟩ := h; exact ⟨σ', H', I.untry, q⟩
 | brk => obtain ⟨σ', H', I, q⟩ := h; exact ⟨σ', H', I.untry, q⟩
 | cont => obtain ⟨σ', H', I, q⟩ := h; exact ⟨σ', H', I.untry, q⟩
 | ret u => obtain ⟨v, σ', H', I, r, q⟩ := h; exact ⟨v, σ', H', I.untry, r, q⟩
end
noncomputable def XW (X : Cx) (pins : List (Addr × Obj)) (σ : St) (E : XK) : Value -> Shared -> Prop := fun v s' => ∃ H0 s0, Inv X pins σ H0 s0 /\ CX1 X.prog X.w X.stack H0 s0 E v s'
noncomputable def PassesAt (CX : CXT) (X : Cx) (E : XK) (σ : St) : Prop := ∀ (pins : List (Addr × Obj)) (H : Hp) (s : Shared) (e : Value) (s' : Shared), Inv X pins σ H s -> CX X.stack H s E e s' -> X.xe e s'
theorem passX {X : Cx} {pins : List (Addr × Obj)} {σ : St} {E : XK} : PassesAt (CX1 X.prog X.w) (X.tryIn pins (XW X pins σ E)) E σ := fun ps H s e s' I h => ⟨H, s, I.untry, h⟩
noncomputable def tCallX (sp : Sp) (dvs : List V) (E : XK) (σ0 : St) (t : TA) : TE := fun σ H Q => σ = σ0 /\ t σ H fun vs H1 => sp (vs ++ dvs) H1 Q E
section
variable {X : Cx} {CX : CXT} {k : Nat} {f : Addr} {fd : FuncData} {ps : List Str} {sp : Sp} {dvs : List V} {ds : List Value} {E : XK} {x : Str} {p pos : Pos} {e : Expr} {es : List Expr} {t : TA}
theorem pe_callX {σ0 : St} (F : FnOk X.prog X.w X.K X.mg X.base CX k f fd ps sp) (hr : Room k X.A) (hg : Gl X x) (hm : X.mg x = some (.ref f)) (hk : PySem.W.keepIn X.K (.ref f) = true) (hb : Binds X.K fd ps ds) (hd : Vals dvs ds) (hx : PassesAt CX X E σ0)
  (ha : PA X (e :: es) t) (hdb : (x == ("__debug__" : Str)) = false := by decide) (he : starEach (e :: es) X.env = (false, eval e X.env) :: starEach es X.env := by rfl) (hpl : (backTo pos (starEach es X.env)).any (·.1) = false := by rfl) :
  PE X (.Call (.Name x p) (e :: es) [] pos) (tCallX sp dvs E σ0 t) := by
 intro pins s σ H Q I h
 obtain ⟨rfl, h⟩ := h
 refine wpAny_Call_Name_kw (ld_glob I hg hm ?_ hdb)
 refine PySem.W.callWith_K (h₀ := X.base) I.ok.mod.kin hk (thn (ha pos pins s σ H _ I h) fun us s1 ⟨vs, H1, I1, r, q⟩ => ⟨I1.kIn, ?_⟩) he hpl
 have r2 : Vals (vs ++ dvs) (us ++ ds) := r.append hd
 have hl : (us ++ ds).length = ps.length := by rw [<- r2.length]; exact F.len _ _ _ _ q
 refine wpAny_call (codeAny_mono (F.run X.A X.stack s1 H1 ⟨us, []⟩ (us ++ ds) (vs ++ dvs) Q E hr I1.env0 (hb s1 us I1.kIn hl) r2 q) fun r s' hq => ?_)
 cases r with
 | error e => exact hx pins H1 s1 e s' I1 hq
 | ok fl =>
  cases fl with
  | ret u => exact I1.after hq
  | next => exact False.elim hq
  | brk => exact False.elim hq
  | cont => exact False.elim hq
end
noncomputable abbrev Cx.marked (X : Cx) (e : Addr) : Cx := { X with A := X.A.mark (some (.ref e)), calm := false, xe := fun _ _ => False }
section
variable {X : Cx} {pins : List (Addr × Obj)} {σ : St} {H : Hp} {s : Shared} {e : Addr}
theorem Inv.marked (I : Inv X pins σ H s) (e : Addr) : Inv (X.marked e) pins σ H s :=
 ⟨⟨I.ok.mod, I.ok.kind, I.ok.glob, I.ok.blt, I.ok.above, I.ok.inj, I.ok.has, I.ok.cab, fun z => (nomatch z), I.ok.frames, I.ok.stk, I.ok.exf, I.ok.bs, I.ok.bsz, I.ok.noex, I.ok.exfs, I.ok.funs, I.ok.frf⟩,
  I.os, I.bare, I.base, I.loc, I.cell, I.free, I.freeC, I.pin, I.hok, I.len⟩
theorem Inv.unmark (I : Inv (X.marked e) pins σ H s) (ok : X.Ok) : Inv X pins σ H s := ⟨ok, I.os, I.bare, I.base, I.loc, I.cell, I.free, I.freeC, I.pin, I.hok, I.len⟩
theorem SP.unmark {D : Ends} {f : Flow} (h : SP (X.marked e) pins D f s) (ok : X.Ok) : SP X pins D f s := by
 cases f with
 | next => obtain ⟨σ', H', I, q⟩ := h; exact ⟨σ', H', I.unmark ok, q⟩
 | brk => obtain ⟨σ', H', I, q⟩ := h; exact ⟨σ', H', I.unmark ok, q⟩
 | cont => obtain ⟨σ', H', I, q⟩ := h; exact ⟨σ', H', I.unmark ok, q⟩
 | ret u => obtain ⟨v, σ', H', I, r, q⟩ := h; exact ⟨v, σ', H', I.unmark ok, r, q⟩
end
noncomputable def PH (X : Cx) (hs : List ExceptHandler) (t : Value -> TS) : Prop :=
 ∀ (pins : List (Addr × Obj)) (s0 s : Shared) (σ : St) (H0 H' : Hp) (e : Addr) (cls a0 : Value) (B : Heap) (D : Ends), Inv X pins σ H0 s0 -> Flies X.prog X.w X.stack H0 s0 e cls a0 H' B s -> t cls D σ H' ->
  wpAny (model X.prog X.w) X.A (handleBy (.ref e) X.env hs) (SP X pins D) X.xe s
theorem fly_ty {M : Model} {B : Heap} {l : List Env} {e : Addr} {cls a0 : Value} {h : Heap} (x : Heap.FlyingW B l e cls a0 h) : PySem.W.Looks M h (typeOf (.ref e)) cls := by
 obtain ⟨ob, q, rfl⟩ := x.there
 exact (PySem.W.Looks.ld q).andThen .now
section
variable {X : Cx}
theorem ph_nil : PH X [] (fun _ _ _ _ => False) := fun _ _ _ _ _ _ _ _ _ _ _ _ _ h => h.elim
theorem ps_try {body : List Stmt} {h₀ : ExceptHandler} {hs : List ExceptHandler} {pos : Pos} {tb : St -> XK -> TS} {th : Value -> TS} (hst : X.stack = X.env :: X.outer) (hfr : X.env.frame = some X.env.locals)
  (hb : ∀ pins σ0 E, PSs (X.tryIn pins (XW X pins σ0 E)) body (tb σ0 E)) (hh : PH X (h₀ :: hs) th) : PS X (.Try body (h₀ :: hs) [] [] pos) (fun D σ H => tb σ (fun cls _ H' => th cls D σ H') D σ H) := by
 intro pins s σ H D I h
 refine wpAny_Try_except (wpAny_mono (hb pins σ _ [] s σ H D (I.tryIn _) h) (fun f s1 q => ?_) fun v s1 q => ?_)
 ·cases f with
  | next => exact wpAny_execs_nil q.untry
  | brk => exact q.untry
  | cont => exact q.untry
  | ret u => exact q.untry
 ·obtain ⟨H0, s0, I0, e, cls, a0, H', B, rfl, fl, q⟩ := q
  have fl1 := fl.fly
  rw [hst] at fl1
  refine wpAny_looks_onW (by rw [I0.ok.frames, hst]) hfr fl1 fun h4 held up4 => ?_
  refine wpAny_landsW held fun h5 fl5 up5 => ?_
  rw [<- hst] at fl5
  exact hh pins s0 _ σ H0 H' e cls a0 B D I0 (fl.on (s'' := { s1 with heap := h5 }) fl5 (up4.trans up5) rfl fl.bare) q
end
end L2
namespace L2
open PySem
noncomputable def GridT (H : Hp) (a : Addr) (B : List (List V)) : Prop := ∃ ps : List Addr, H a = some (.tup (ps.map V.ref)) /\ Paired (fun p row => H p = some (.tup row)) ps B
theorem cut_to (xs : List V) {c : Nat} (h : c <= xs.length) : cutV xs none (some (c : Int)) = xs.take c := by
 unfold cutV
 rw [HT.sIx_none, HT.sIx_nat, List.drop_zero, Nat.sub_zero]
 congr 1
 exact Om.m2 ‹_›
theorem cut_from (xs : List V) {c : Nat} (h : c <= xs.length) : cutV xs (some (c : Int)) none = xs.drop c := by
 unfold cutV
 rw [HT.sIx_none, HT.sIx_nat]
 have e : min c xs.length = c := by exact Om.m2 ‹_›
 rw [e, List.take_of_length_le]
 rw [List.length_drop]
 exact Nat.le_refl _
theorem not_whole_to {m c : Nat} (h : c < m) : ¬ (HT.sIx m 0 none = 0 /\ HT.sIx m m (some (c : Int)) = m) := by
 rw [HT.sIx_nat]
 exact Om.k167 h
theorem not_whole_from {m c : Nat} (h : c < m) : ¬ (HT.sIx m 0 (some ((c + 1 : Nat) : Int)) = 0 /\ HT.sIx m m none = m) := by
 rw [HT.sIx_nat]
 exact Om.k166 h
inductive RSumTI (K : PySem.W.Frag) (x : V) (y : V) (H : Hp) (Q : VK) : Prop where
 | mk (a : Addr) (b : Addr) (xs : List V) (ys : List V) (_ : x = .ref a) (_ : y = .ref b) (_ : H a = some (.tup xs)) (_ : H b = some (.tup ys)) (_ : xs.length + ys.length <= sizeLine) (_ : ∀ p H', Same H H' -> H' p = some (.tup (xs ++ ys)) -> Q (.ref p) H') : RSumTI K x y H Q
noncomputable def rSumT (K : PySem.W.Frag) : R2 := fun x y H Q => RSumTI K x y H Q
theorem op_sumT {X : Cx} (K : PySem.W.Frag) : OpR X (binaryOp .Add) (rSumT K) := by
 intro pins s σ H x y v u Q I rx ry h
 obtain ⟨a, b, xs, ys, rfl, rfl, ha, hb, hz, q⟩ := h
 cases rx
 cases ry
 by_cases hx : xs = []
 ·subst hx
  obtain ⟨its, r1, p1, _⟩ := I.tuple (SqT.of ha)
  obtain ⟨its2, r2, p2, _⟩ := I.tuple (SqT.of hb)
  have e0 : its = [] := r1.nil_iff.mpr rfl
  subst e0
  obtain ⟨⟨cls, dd, data, sl⟩, ho, hc, n, hd⟩ := id p1
  obtain ⟨⟨cls2, dd2, data2, sl2⟩, ho2, hc2, n2, hd2⟩ := id p2
  simp only at hc hd hc2 hd2
  subst hc hd hc2 hd2
  exact concat_meets ⟨_, ho, rfl⟩ ⟨_, ho2, rfl⟩ noFill_tuple_add seq_tuple_add PySem.F.slot_tuple_add PySem.F.entry_tuple_add (PySem.F.args_tuple_add_2 _ _) (PyProof.Rows.tuple_addW0 a b _ _ n n2 dd dd2 sl sl2 rfl) ⟨ho, ho2, .ref b, H, I, rfl, q b H (Same.refl H) hb⟩
 ·refine op_catT pins s σ H (.ref a) (.ref b) _ _ Q I rfl rfl ⟨a, b, xs, ys, rfl, rfl, SqT.of ha, SqT.of hb, hx, hz, fun e => ?_, fun _ p hp => q p _ (Same.new hp) upd_same⟩
  subst e
  rw [List.append_nil] at q
  exact q a H (Same.refl H) ha
end L2
namespace L2
open PySem PySem.Spec PyProof.Rows PySem.W
structure XCls (K : PySem.W.Frag) (C : Addr) : Prop where
 ga : findIn K (.ref C) "__getattribute__" = some (some (.builtin "BaseException.__getattribute__"))
 no : findIn K (.ref C) "__getattr__" = some none
 cls : findIn K (.ref C) "__class__" = some (some (.builtin "object.__class__"))
 sub : subIn K (.ref C) (.type "BaseException") = some true
 obj : mroIn K C (.type "object") = some true
section
variable {prog : Program} {w : World} {A : Around} {E : Value -> Shared -> Prop} {K : PySem.W.Frag} {h : Heap} {g : Array GenState} {d : Drawn} {t : Nat} {os : OsState} {a C : Addr} {o : Obj}
theorem xtype (hx : h.get? a = some o) (hc : o.cls = .ref C) {M : Model} : Looks M h (typeOf (.ref a)) (.ref C) := by
 rw [<- hc]
 exact (Looks.ld hx).andThen .now
theorem xkind : builtinKind "BaseException.__getattribute__" = some .slot /\ splitId "BaseException.__getattribute__" = some ("BaseException", "__getattribute__") := ⟨by decide +kernel, by decide +kernel⟩
theorem xcheck_ga {M : Model} {nv : Value} {Q : Unit -> Shared -> Prop} (X : K.In h) (FC : XCls K C) (hx : h.get? a = some o) (hc : o.cls = .ref C) (hq : Q () ⟨h, g, d, t, os⟩) :
  wpAny M A (checkBuiltinCall "BaseException.__getattribute__" ⟨[.ref a, nv], []⟩) Q E ⟨h, g, d, t, os⟩ := by
 have ha := PySem.F.args_bexc_ga (.ref a) nv
 have T0 := xtype (M := M) hx hc
 have T1 := looks_subIn (M := M) X FC.sub
 simp only [checkBuiltinCall, xkind.1, xkind.2]
 refine wpAny_bind ?_
 unfold isInstance
 repeat (first | with_reducible refine T0.at ?_ | with_reducible refine T1.at ?_ | wp_step)
 exact hq
theorem xclass_get {R : Result -> Shared -> Prop} (X : K.In h) (FC : XCls K C) (hx : h.get? a = some o) (hc : o.cls = .ref C) (hq : R (.ok (.ret (.ref C))) ⟨h, g, d, t, os⟩) :
  codeAny (model prog w) A (.call (.builtin "getset_descriptor.__get__") ⟨[.builtin "object.__class__", .ref a, .ref C], []⟩) R ⟨h, g, d, t, os⟩ := by
 have T0 := xtype (M := model prog w) hx hc
 have T1 := looks_mroIn (M := model prog w) X FC.obj
 rw [<- PySem.F.owner_object_class] at T1
 refine codeAny_call_builtin PySem.F.slot_gs_get.plain PySem.F.entry_gs_get (PySem.F.slot_gs_get.check _ _ _ _ _ _ _ _ PySem.F.typeOf_object_class (PySem.F.args_gs_get _ _ _) ?_)
 repeat (any_goals (first | assumption | with_reducible refine T0.at ?_ | with_reducible refine T1.at ?_ | wp_step))
 refine ⟨Code.quiet_builtin _ (by decide +kernel), codeAny_builtin PySem.F.entry_object_class ?_⟩
 repeat (any_goals (first | assumption | with_reducible refine T0.at ?_ | wp_step))
theorem xclass_entry {tk : Tok} {Q : Fin -> Shared -> Prop} (X : K.In h) (FC : XCls K C) (hx : h.get? a = some o) (hc : o.cls = .ref C) (hq : Q (.done (.ret (.ref C))) ⟨h, g, d, t, os⟩) :
  wpAny (model prog w) A (Builtin.«object.__getattribute__» ⟨[.ref a, .str "__class__" tk], []⟩) Q E ⟨h, g, d, t, os⟩ := by
 have c0 : (⟨h, g, d, t, os⟩ : Shared).TypeIs (.builtin "object.__class__") "getset_descriptor" := PySem.F.typeOf_object_class
 have c1 := PySem.F.typeOf_object_class
 have c2 := PySem.F.slot_gs_get.lookup
 have c3 := PySem.F.slot_gs_set.lookup
 have T0 := xtype (M := model prog w) hx hc
 have T1 := looks_findIn (M := model prog w) X FC.cls
 repeat (any_goals (first | assumption | with_reducible refine T0.at ?_ | with_reducible refine T1.at ?_ | wp_step))
 refine xclass_get X FC hx hc ?_
 repeat (any_goals (first | assumption | wp_step))
theorem xclass_by {tk : Tok} {fill : Bool} {Q : Value -> Shared -> Prop} (X : K.In h) (FC : XCls K C) (hx : h.get? a = some o) (hc : o.cls = .ref C) (hq : Q (.ref C) ⟨h, g, d, t, os⟩) :
  wpAny (model prog w) A (getAttrBy (.ref a) (.str "__class__" tk) fill) Q E ⟨h, g, d, t, os⟩ := by
 have b0 := PySem.F.attr_ValueError.ga.bind (.ref a)
 have b1 : (Value.builtin "BaseException.__getattribute__" == Value.builtin "object.__getattribute__") = false := by decide +kernel
 have b2 : (onTheHeap (Value.ref C) && Value.builtin "BaseException.__getattribute__" == Value.builtin "object.__getattribute__") = false := by rw [b1]; rfl
 have T0 := xtype (M := model prog w) hx hc
 have T1 := looks_findIn (M := model prog w) X FC.ga
 have T2 := looks_findIn (M := model prog w) X FC.no
 repeat (any_goals (first | assumption | with_reducible refine T0.at ?_ | with_reducible refine T1.at ?_ | with_reducible refine T2.at ?_ | wp_step))
 refine codeAny_call_builtin PySem.F.attr_ValueError.ga.plain PySem.F.entry_bexc_ga (xcheck_ga X FC hx hc (xclass_entry X FC hx hc ?_))
 repeat (any_goals (first | assumption | wp_step))
theorem xclass {Q : Option Value -> Shared -> Prop} (X : K.In h) (FC : XCls K C) (hx : h.get? a = some o) (hc : o.cls = .ref C) (hq : Q (some (.ref C)) ⟨h, g, d, t + 1, os⟩) :
  wpAny (model prog w) A (getAttr? (.ref a) "__class__") Q E ⟨h, g, d, t, os⟩ := by
 unfold getAttr? getAttrBy?
 repeat (any_goals (first | assumption | with_reducible apply xclass_by X FC hx hc | wp_step))
end
noncomputable def ExcAt (a C : Addr) (h : Heap) : Prop := ∃ o, h.get? a = some o /\ o.cls = .ref C
theorem kitx_exc {K : PySem.W.Frag} {x C : Addr} (FC : XCls K C) : PySem.W.KitX K (.ref x) (.ref C) (ExcAt x C) where
 ty := fun _ _ _ ⟨_, hx, hc⟩ => xtype hx hc
 it := fun _ _ X _ => by
  obtain ⟨cdD, hcD, _⟩ := Option.bind_eq_some_iff.mp FC.obj
  unfold PySem.W.clsIn at hcD
  split at hcD
  ·rename_i ho
   intro A' Q' E' s' k q
   unfold isType loadHead
   exact wpAny_bind (wpAny_loadPart (k _ _ (X _ _ ho)) (wpAny_pure q))
  ·cases hcD
 ne := fun h tp dd its n sl X htp => by
  obtain ⟨cdD, hcD, _⟩ := Option.bind_eq_some_iff.mp FC.obj
  refine Bool.eq_false_iff.mpr fun q => ?_
  have e := Value.ref.inj (beq_iff_eq.mp q)
  subst e
  unfold PySem.W.clsIn at hcD
  split at hcD
  ·rename_i ho
   cases (X _ _ ho).symm.trans htp
  ·cases hcD
 ca := fun {_ _ _ _ _ s} X ⟨_, hx, hc⟩ k => by
  obtain ⟨h, g, d, t, os⟩ := s
  exact xclass X FC hx hc k
end L2
namespace L2
open PySem PySem.Spec PyProof.Rows
noncomputable def excO (C a : Addr) : HO := .ext (ExcAt a C)
theorem ObjOk.there {P : Program} {w : World} {H : Hp} {h : Heap} {a : Addr} {o : HO} (x : ObjOk P w H h a o) : ∃ u, h.get? a = some u := by
 cases o with
 | lst xs => obtain ⟨_, _, _, _, e⟩ := x; exact ⟨_, e⟩
 | tup xs => obtain ⟨_, _, _, o, e, _⟩ := x; exact ⟨_, e⟩
 | dK kvs => obtain ⟨_, _, _, _, o, _, _, e, _⟩ := x; exact ⟨_, e⟩
 | dT kvs => obtain ⟨_, _, _, _, o, _, _, e, _⟩ := x; exact ⟨_, e⟩
 | set S n => obtain ⟨o, _, _, _, e, _⟩ := x; exact ⟨_, e⟩
 | ins C dx fs => obtain ⟨_, _, _, e, _⟩ := x; exact ⟨_, e⟩
 | own y => exact x
 | xd fs => obtain ⟨_, ⟨_, _, _, e, _⟩, _⟩ := x; exact ⟨_, e⟩
 | rng lo hi => obtain ⟨_, _, _, e⟩ := x; exact ⟨_, e⟩
 | frz ob u => obtain ⟨e, _⟩ := x; exact ⟨_, e⟩
 | tbl ps => obtain ⟨_, e, _⟩ := x; exact ⟨_, e⟩
 | met f y => exact ⟨_, x⟩
 | ext φ => exact x.2.1
theorem excO_ok {P : Program} {w : World} {H : Hp} {h : Heap} {a C : Addr} {o : Obj} (e : h.get? a = some o) (hc : o.cls = .ref C) : ObjOk P w H h a (excO C a) :=
 ⟨⟨o, e, hc⟩, ⟨o, e⟩, fun h1 h2 zz0 k => by obtain ⟨u, q, z⟩ := zz0; exact ⟨u, k u q, z⟩⟩
section
variable {X : Cx} {pins : List (Addr × Obj)} {σ : St} {H : Hp} {s : Shared}
theorem Inv.track {a : Addr} {o : HO} (I : Inv X pins σ H s) (hn : H a = none) (h0 : ∀ u, X.s₀.heap.get? a = some u -> X.H₀ a = none -> a ∉ X.ex -> False) (hl : a ≠ X.env.locals) (hc : ∀ x c, X.env.cells.lookup x = some c -> c ≠ a)
  (hp : ∀ p ∈ X.pn ++ pins, p.1 ≠ a) (new : ObjOk X.prog X.w (upd H a o) s.heap a o) : Inv X pins σ (upd H a o) s := by
 refine ⟨I.ok, I.os, I.bare, ⟨I.base.keep, I.base.slot, fun b u q n hx => ?_, I.base.there, fun b xs q => ?_, fun b ob u q => ?_, fun b ps q => ?_⟩, I.loc, I.cell, ?_, fun x c e => ?_, fun p hp' => ?_, fun b u q => ?_, I.len⟩
 ·by_cases e : b = a
  ·subst e
   exact (h0 u q n hx).elim
  ·rw [upd_ne e]
   exact I.base.free b u q n hx
 ·have := I.base.tups b xs q
  rw [upd_ne (ne_of_none this hn)]
  exact this
 ·have := I.base.frzs b ob u q
  rw [upd_ne (ne_of_none this hn)]
  exact this
 ·obtain ⟨more, this⟩ := I.base.tbls b ps q
  refine ⟨more, ?_⟩
  rw [upd_ne (ne_of_none this hn)]
  exact this
 ·rw [upd_ne (Ne.symm hl)]
  exact I.free
 ·rw [upd_ne (hc x c e)]
  exact I.freeC x c e
 ·obtain ⟨z1, z2, z3⟩ := I.pin p hp'
  exact ⟨z1, by rw [upd_ne (hp p hp')]; exact z2, z3⟩
 ·by_cases e : b = a
  ·subst e
   rw [upd_same] at q
   cases q
   exact new
  ·rw [upd_ne e] at q
   refine (I.hok b u q).stay (fun _ _ _ z => z) (fun c z => ?_) fun c xs z => ?_
   ·rw [upd_ne (ne_of_none z hn)]
    exact z
   ·rw [upd_ne (ne_of_none z hn)]
    exact z
theorem Inv.goes {M : Model} {A : Around} {E : Value -> Shared -> Prop} {i : Nat} {x : Str} {pos : Pos} {Q : Unit -> Shared -> Prop} (I : Inv X pins σ H s) (hN : X.N.Nodup) (hi : X.N[i]? = some x) (hk : X.env.scope.names.lookup x = some .local)
  (h : ∀ s', Inv X pins (σ.set i none) H s' -> Q () s') : wpAny M A (do bindName X.env x .none; unbindBehindTheSuite X.env x pos) Q E s := by
 refine wpAny_bind (wpAny_bindName (store_ok (v := .non) I hN hi (.inl hk) rfl (fun s1 I1 => ?_) (.inr hk)))
 have hcls : (X.env.scope.kind == .class || (X.env.scope.kind == .module && X.env.locals != X.env.globals)) = false := by rw [I.ok.kind]; rfl
 have hk' : X.env.kindOf x = some .local := hk
 obtain ⟨m, hn, hl⟩ := id I1.loc
 have hiσ : i < σ.length := by rw [I.len]; exact (List.getElem?_eq_some_iff.mp hi).1
 have hmx : (m x).isSome = true := by
  obtain ⟨u, ru, q⟩ := hl i x .non hi (by rw [List.getElem?_set_self hiσ]) (.inl hk)
  rcases q with ⟨_, e⟩ | ⟨z | z, _⟩
  ·rw [e]; rfl
  ·rw [hk'] at z; cases z
  ·rw [hk'] at z; cases z
 unfold unbindBehindTheSuite
 refine wpAny_onRaise ?_
 unfold unbindName
 refine wpAny_bind (wpAny_point (wpAny_bind ?_))
 unfold deleteName
 simp only [hk', hcls]
 rw [if_neg (by decide)]
 refine wpAny_bind (wpAny_nsDel_keeps hn fun h' v hn' hs => ?_)
 rw [hmx]
 simp only [Bool.not_true, Bool.false_eq_true, if_false]
 obtain ⟨oL, _, _, hoL, _⟩ := id hn
 refine wpAny_pure (wpAny_point (h _ ⟨I1.ok, I1.os, I1.bare, ⟨fun b o e n hb hx => ?_, fun b o e n hb hx => ?_, I1.base.free, fun b o e hx => ?_, I1.base.tups, I1.base.frzs, I1.base.tbls⟩, ⟨_, hn', fun j y v' e1 e2 e3 => ?_⟩, fun y c e => ?_, I1.free, I1.freeC, fun p hp => ?_, fun b ob e => ?_, ?_⟩))
 ·exact (hs.2 b (Nat.ne_of_lt (Nat.lt_of_lt_of_le (Heap.lt_size e) I1.ok.above))).trans (I1.base.keep b o e n hb hx)
 ·obtain ⟨sl, e1⟩ := I1.base.slot b o e n hb hx
  exact ⟨sl, (hs.2 b (Nat.ne_of_lt (Nat.lt_of_lt_of_le (Heap.lt_size e) I1.ok.above))).trans e1⟩
 ·obtain ⟨o', e1⟩ := I1.base.there b o e hx
  exact ⟨o', (hs.2 b (Nat.ne_of_lt (Nat.lt_of_lt_of_le (Heap.lt_size e) I1.ok.above))).trans e1⟩
 ·by_cases hj : j = i
  ·subst hj
   rw [List.getElem?_set_self hiσ] at e2
   cases e2
  ·rw [List.getElem?_set_ne (Ne.symm hj)] at e2
   obtain ⟨u', r', q⟩ := hl j y v' e1 (by rw [List.getElem?_set_ne (Ne.symm hj)]; exact e2) e3
   refine ⟨u', r', ?_⟩
   rcases q with ⟨k, e⟩ | ⟨k, c, e, z⟩
   ·refine .inl ⟨k, ?_⟩
    have : y ≠ x := fun e => hj (nodup_ix hN e1 (e ▸ hi))
    simp [this, e]
   ·exact .inr ⟨k, c, e, z.sameBut hs (I1.cne y c e)⟩
 ·obtain ⟨w', z⟩ := I1.cell y c e
  exact ⟨w', z.sameBut hs (I1.cne y c e)⟩
 ·obtain ⟨e, n, ne, nf, d⟩ := I1.pin p hp
  exact ⟨(hs.2 p.1 ne).trans e, n, ne, nf, d⟩
 ·refine (I1.hok b ob e).stay (fun c w' hc q => (hs.2 c ?_).trans q) (fun _ q => q) fun _ _ q => q
  rintro rfl
  rcases hc with rfl | hc
  ·rw [I1.free] at e; cases e
  ·rw [I1.free] at hc; cases hc
 ·have := I1.len
  simpa using this
end
theorem Flies.new {P : Program} {w : World} {outer : List Env} {H H' : Hp} {s s' : Shared} {e : Addr} {cls a0 : Value} {B : Heap} (x : Flies P w outer H s e cls a0 H' B s') {o : Obj} (q : s.heap.get? e = some o) : False := by
 by_cases hb : e ∈ frs outer
 ·obtain ⟨_, o2, q2, d2⟩ := x.fly.2.2.1.mem hb
  obtain ⟨oe, vs, q3, _, hd, _⟩ := x.fly.first
  rw [q3] at q2
  cases q2
  exact d2 vs hd
 ·obtain ⟨o', q'⟩ := x.there e o q hb
  rw [x.fly.2.1] at q'
  cases q'
theorem Flies.none {P : Program} {w : World} {outer : List Env} {H H' : Hp} {s s' : Shared} {e : Addr} {cls a0 : Value} {B : Heap} (x : Flies P w outer H s e cls a0 H' B s') : H' e = none := by
 cases q : H' e with
 | none => rfl
 | some o =>
  obtain ⟨u, z⟩ := (x.hok e o q).there
  rw [x.fly.2.1] at z
  cases z
theorem Inv.caught {X : Cx} {pins : List (Addr × Obj)} {σ : St} {H0 H' : Hp} {s0 s : Shared} {e C : Addr} {a0 : Value} {B : Heap} (I0 : Inv X pins σ H0 s0) (fl : Flies X.prog X.w X.stack H0 s0 e (.ref C) a0 H' B s) : Inv X pins σ (upd H' e (excO C e)) s := by
 have I1 := I0.flown fl
 obtain ⟨ob, q, hc⟩ := fl.fly.there
 refine I1.track fl.none (fun u z n hx => ?_) ?_ (fun x c z => ?_) (fun p hp => ?_) (excO_ok q hc)
 ·obtain ⟨o', z'⟩ := I0.base.there e u z hx
  exact fl.new z'
 ·rintro rfl
  obtain ⟨m, ⟨o, _, _, ho, _⟩, _⟩ := I0.loc
  exact fl.new ho
 ·rintro rfl
  obtain ⟨v, o, ho, _⟩ := I0.cell x c z
  exact fl.new ho
 ·rintro rfl
  exact fl.new (I0.pin p hp).1
noncomputable def endsAs (D : Ends) (i : Nat) : Ends := { nx := fun σ H => D.nx (σ.set i none) H, bk := fun σ H => D.bk (σ.set i none) H, ct := fun σ H => D.ct (σ.set i none) H, rt := D.rt }
section
variable {X : Cx}
theorem ph_as {c x : Str} {i : Nat} {np pos : Pos} {Cc : Addr} {b₀ : Stmt} {suite : List Stmt} {rest : List ExceptHandler} {tb : TS} {tr : Value -> TS} (hN : X.N.Nodup) (hi : X.N[i]? = some x) (hx : X.env.scope.names.lookup x = some .local) (hg : Gl X c) (hm : X.mg c = some (.ref Cc))
  (hb : ∀ e, PSs (X.marked e) (b₀ :: suite) tb) (hr : PH X rest tr) (hdb : (c == ("__debug__" : Str)) = false := by decide) :
  PH X (.ExceptHandler (some (.Name c np)) (some x) (b₀ :: suite) pos :: rest) (fun cls D σ H => ∃ b, PySem.W.exmOne X.K cls (.ref Cc) = some b /\ if b = true then ∃ C, cls = .ref C /\ ∀ e, H e = none -> tb (endsAs D i) (σ.set i (some (.ref e))) (upd H e (excO C e)) else tr cls D σ H) := by
 intro pins s0 s σ H0 H' e cls a0 B D I0 fl q
 obtain ⟨b, eb, q⟩ := q
 have I1 := I0.flown fl
 refine wpAny_handleBy_cons (codeAny_handlers_test (ld_glob (I1.marked e) hg hm ?_ hdb)) (by intro z; cases z)
 refine PySem.W.exm_one I1.kIn (fly_ty fl.fly) eb _ _ _ s (fun _ _ z => z) ?_
 cases b with
 | false =>
  rw [if_neg Bool.false_ne_true] at q
  exact hr pins s0 s σ H0 H' e cls a0 B D I0 fl q
 | true =>
  rw [if_pos rfl] at q
  obtain ⟨C, rfl, q⟩ := q
  refine codeAny_handlers_suite_as (lands_againW fl.fly fun h6 fl6 up6 => ?_)
  have fl' : Flies X.prog X.w X.stack H0 s0 e (.ref C) a0 H' B { s with heap := h6 } := fl.on fl6 up6 rfl fl.bare
  have I6 := I0.caught fl'
  refine store_ok (v := .ref e) (X := X.marked e) (I6.marked e) hN hi (.inl hx) rfl (fun s7 I7 => ?_) (.inr hx)
  refine wpAny_mono (hb e pins _ _ _ (endsAs D i) I7 (q e fl.none)) (fun f s8 q8 => ?_) fun _ _ z => z.elim
  have q8' := SP.unmark q8 I0.ok
  show wpAny _ X.A (do bindName X.env x .none; unbindBehindTheSuite X.env x pos) (fun _ s9 => SP X pins D f s9) X.xe s8
  cases f with
  | next =>
   obtain ⟨σ', H9, I9, q9⟩ := q8'
   exact I9.goes hN hi hx fun s9 I9' => ⟨_, _, I9', q9⟩
  | brk =>
   obtain ⟨σ', H9, I9, q9⟩ := q8'
   exact I9.goes hN hi hx fun s9 I9' => ⟨_, _, I9', q9⟩
  | cont =>
   obtain ⟨σ', H9, I9, q9⟩ := q8'
   exact I9.goes hN hi hx fun s9 I9' => ⟨_, _, I9', q9⟩
  | ret u =>
   obtain ⟨v, σ', H9, I9, r9, q9⟩ := q8'
   exact I9.goes hN hi hx fun s9 I9' => ⟨v, _, _, I9', r9, q9⟩
end
noncomputable def clsV : V -> Option Value
 | .ref a => some (.ref a)
 | .ty n => some (.type n)
 | _ => none
theorem clsV_rel {c : V} {u v : Value} (h : clsV c = some v) (r : RelV c u) : u = v := by
 cases c with
 | ref a => cases h; exact r
 | ty n => cases h; exact r
 | _ => cases h
noncomputable def rIsX (K : PySem.W.Frag) : List V -> Hp -> VK -> Prop := fun xs H Q => ∃ a C c cv b, xs = [.ref a, c] /\ H a = some (excO C a) /\ XCls K C /\ clsV c = some cv /\ PySem.W.kitOne K (.ref C) cv = some b /\ Q (.bl b) H
theorem call_isX {X : Cx} (K : PySem.W.Frag) (hK : X.K = K := by rfl) : CallR X (.builtin "isinstance") (rIsX K) := by
 subst hK
 intro pins s σ H xs us Q I r h
 obtain ⟨a, C, c, cv, b, rfl, ha, F, hc, e, q⟩ := h
 obtain ⟨u, v, rfl, rx, ry⟩ := vals2 r
 cases rx
 cases clsV_rel hc ry
 obtain ⟨p, _⟩ := I.hok a _ ha
 exact PySem.W.kia_one (kitx_exc F) I.kIn p e (fun z => nomatch z) fun tk => ⟨.bl b, H, I.tok tk, rfl, q⟩
section
variable {X : Cx} {k : Nat} {f : Addr} {fd : FuncData} {ps : List Str} {sp : Sp} {x : Str} {p pos : Pos} {e : Expr} {es : List Expr} {t : TA}
end
end L2
namespace L2
open PySem PySem.Spec PyProof.Rows
inductive EqD (K : PySem.W.Frag) (H : Hp) : Nat -> V -> V -> Bool -> Prop where
 | flat {d : Nat} {x y : V} (fx : flatV x = true) (fy : flatV y = true) : EqD K H d x y (eqV x y)
 | tups {d : Nat} {a c : Addr} {xs ys : List V} {e : Nat -> Bool} (h1 : SqT K H a xs) (h2 : SqT K H c ys) (he : ∀ j x y, xs[j]? = some x -> ys[j]? = some y -> EqD K H d x y (e j)) : EqD K H (d + 1) (.ref a) (.ref c) (decide (xs.length = ys.length) && (List.range xs.length).all fun j => decide (j < ys.length) && e j)
 | lsts {d : Nat} {a c : Addr} {xs ys : List V} {e : Nat -> Bool} (h1 : SqL K H a xs) (h2 : SqL K H c ys) (he : xs.length = ys.length -> ∀ j x y, xs[j]? = some x -> ys[j]? = some y -> EqD K H d x y (e j)) : EqD K H (d + 1) (.ref a) (.ref c) (decide (xs.length = ys.length) && (List.range xs.length).all fun j => decide (j < ys.length) && e j)
 | tupF {d : Nat} {a : Addr} {xs : List V} {y : V} (h1 : SqT K H a xs) (fy : flatV y = true) : EqD K H d (.ref a) y false
 | Ftup {d : Nat} {a : Addr} {xs : List V} {y : V} (h1 : SqT K H a xs) (fy : flatV y = true) : EqD K H d y (.ref a) false
 | lstF {d : Nat} {a : Addr} {xs : List V} {y : V} (h1 : SqL K H a xs) (fy : flatV y = true) : EqD K H d (.ref a) y false
 | Flst {d : Nat} {a : Addr} {xs : List V} {y : V} (h1 : SqL K H a xs) (fy : flatV y = true) : EqD K H d y (.ref a) false
 | tupL {d : Nat} {a c : Addr} {xs ys : List V} (h1 : SqT K H a xs) (h2 : SqL K H c ys) : EqD K H d (.ref a) (.ref c) false
 | lstT {d : Nat} {a c : Addr} {xs ys : List V} (h1 : SqL K H a xs) (h2 : SqT K H c ys) : EqD K H d (.ref a) (.ref c) false
theorem rcAt_V {A : Around} {s : Shared} {y x : V} {u v : Value} (ry : RelV y u) (rx : RelV x v) (fy : flatV y = true) (fx : flatV x = true) : SeqAt.RcAt A s u v (eqV y x) /\ SeqAt.RcNeAt A s u v (!eqV y x) := by
 cases y with
 | non =>
  cases ry
  cases x with
  | non => cases rx; exact ⟨SeqAt.RcAt.none_none, SeqAt.RcNeAt.none_none⟩
  | bl b => cases rx; exact ⟨SeqAt.RcAt.none_bool b, SeqAt.RcNeAt.none_bool b⟩
  | int b => obtain ⟨t, rfl⟩ := rx; exact ⟨SeqAt.RcAt.none_int b t, SeqAt.RcNeAt.none_int b t⟩
  | str b => obtain ⟨t, rfl⟩ := rx; exact ⟨SeqAt.RcAt.none_str b t, SeqAt.RcNeAt.none_str b t⟩
  | _ => exact absurd (show false = true from fx) Bool.false_ne_true
 | bl a =>
  cases ry
  cases x with
  | non => cases rx; exact ⟨SeqAt.RcAt.bool_none a, SeqAt.RcNeAt.bool_none a⟩
  | bl b => cases rx; exact ⟨SeqAt.RcAt.bool_bool a b, SeqAt.RcNeAt.bool_bool a b⟩
  | int b => obtain ⟨t, rfl⟩ := rx; exact ⟨SeqAt.RcAt.bool_int a b t, SeqAt.RcNeAt.bool_int a b t⟩
  | str b => obtain ⟨t, rfl⟩ := rx; exact ⟨SeqAt.RcAt.bool_str a b t, SeqAt.RcNeAt.bool_str a b t⟩
  | _ => exact absurd (show false = true from fx) Bool.false_ne_true
 | int a =>
  obtain ⟨t', rfl⟩ := ry
  cases x with
  | non => cases rx; exact ⟨SeqAt.RcAt.int_none a t', SeqAt.RcNeAt.int_none a t'⟩
  | bl b => cases rx; exact ⟨SeqAt.RcAt.int_bool a t' b, SeqAt.RcNeAt.int_bool a t' b⟩
  | int b => obtain ⟨t, rfl⟩ := rx; exact ⟨SeqAt.RcAt.int_int a t' b t, SeqAt.RcNeAt.int_int a t' b t⟩
  | str b => obtain ⟨t, rfl⟩ := rx; exact ⟨SeqAt.RcAt.int_str a t' b t, SeqAt.RcNeAt.int_str a t' b t⟩
  | _ => exact absurd (show false = true from fx) Bool.false_ne_true
 | str a =>
  obtain ⟨t', rfl⟩ := ry
  cases x with
  | non => cases rx; exact ⟨SeqAt.RcAt.str_none a t', SeqAt.RcNeAt.str_none a t'⟩
  | bl b => cases rx; exact ⟨SeqAt.RcAt.str_bool a t' b, SeqAt.RcNeAt.str_bool a t' b⟩
  | int b => obtain ⟨t, rfl⟩ := rx; exact ⟨SeqAt.RcAt.str_int a t' b t, SeqAt.RcNeAt.str_int a t' b t⟩
  | str b => obtain ⟨t, rfl⟩ := rx; exact ⟨SeqAt.RcAt.str_str a t' b t, SeqAt.RcNeAt.str_str a t' b t⟩
  | _ => exact absurd (show false = true from fx) Bool.false_ne_true
 | _ => exact absurd (show false = true from fy) Bool.false_ne_true
section
variable {A : Around} {s : Shared} {l : Addr} {its : Array Value}
theorem tupF_at (hl : s.heap.IsTuple l its) {y : V} {v : Value} (r : RelV y v) (fy : flatV y = true) (hu : A.units < cLine) :
  (SeqAt.EqAt A s (.ref l) v false /\ SeqAt.RcAt A s (.ref l) v false /\ SeqAt.RcNeAt A s (.ref l) v true) /\ (SeqAt.EqAt A s v (.ref l) false /\ SeqAt.RcAt A s v (.ref l) false /\ SeqAt.RcNeAt A s v (.ref l) true) := by
 cases y with
 | non => cases r; exact ⟨⟨.tuple_none hl hu, .tuple_none hl hu, .tuple_none hl hu⟩, .none_tuple hl hu, .none_tuple hl hu, .none_tuple hl hu⟩
 | bl b => cases r; exact ⟨⟨.tuple_bool b hl hu, .tuple_bool b hl hu, .tuple_bool b hl hu⟩, .bool_tuple b hl hu, .bool_tuple b hl hu, .bool_tuple b hl hu⟩
 | int b => obtain ⟨t, rfl⟩ := r; exact ⟨⟨.tuple_int b t hl hu, .tuple_int b t hl hu, .tuple_int b t hl hu⟩, .int_tuple b t hl hu, .int_tuple b t hl hu, .int_tuple b t hl hu⟩
 | str b => obtain ⟨t, rfl⟩ := r; exact ⟨⟨.tuple_str b t hl hu, .tuple_str b t hl hu, .tuple_str b t hl hu⟩, .str_tuple b t hl hu, .str_tuple b t hl hu, .str_tuple b t hl hu⟩
 | _ => exact absurd (show false = true from fy) Bool.false_ne_true
theorem lstF_at (hl : s.heap.IsList l its) {y : V} {v : Value} (r : RelV y v) (fy : flatV y = true) (hu : A.units < cLine) :
  (SeqAt.EqAt A s (.ref l) v false /\ SeqAt.RcAt A s (.ref l) v false /\ SeqAt.RcNeAt A s (.ref l) v true) /\ (SeqAt.EqAt A s v (.ref l) false /\ SeqAt.RcAt A s v (.ref l) false /\ SeqAt.RcNeAt A s v (.ref l) true) := by
 cases y with
 | non => cases r; exact ⟨⟨.list_none hl hu, .list_none hl hu, .list_none hl hu⟩, .none_list hl hu, .none_list hl hu, .none_list hl hu⟩
 | bl b => cases r; exact ⟨⟨.list_bool b hl hu, .list_bool b hl hu, .list_bool b hl hu⟩, .bool_list b hl hu, .bool_list b hl hu, .bool_list b hl hu⟩
 | int b => obtain ⟨t, rfl⟩ := r; exact ⟨⟨.list_int b t hl hu, .list_int b t hl hu, .list_int b t hl hu⟩, .int_list b t hl hu, .int_list b t hl hu, .int_list b t hl hu⟩
 | str b => obtain ⟨t, rfl⟩ := r; exact ⟨⟨.list_str b t hl hu, .list_str b t hl hu, .list_str b t hl hu⟩, .str_list b t hl hu, .str_list b t hl hu, .str_list b t hl hu⟩
 | _ => exact absurd (show false = true from fy) Bool.false_ne_true
end
theorem min_all {n m : Nat} {e : Nat -> Bool} : ((List.range (min n m)).all e && (n == m)) = (decide (n = m) && (List.range n).all fun j => decide (j < m) && e j) := by
 by_cases h : n = m
 ·subst h
  rw [Nat.min_self, beq_self_eq_true, Bool.and_true, decide_eq_true rfl, Bool.true_and, Bool.eq_iff_iff, List.all_eq_true, List.all_eq_true]
  constructor
  ·intro h j hj
   rw [decide_eq_true (List.mem_range.mp hj), Bool.true_and]
   exact h j hj
  ·intro h j hj
   have := h j hj
   rw [Bool.and_eq_true] at this
   exact this.2
 ·rw [decide_eq_false h, Bool.false_and, show (n == m) = false by simpa using h, Bool.and_false]
theorem all_lt {n : Nat} {e : Nat -> Bool} : ((List.range n).all fun j => decide (j < n) && e j) = (List.range n).all e := by
 rw [Bool.eq_iff_iff, List.all_eq_true, List.all_eq_true]
 constructor
 ·intro h j hj
  have := h j hj
  rw [Bool.and_eq_true] at this
  exact this.2
 ·intro h j hj
  rw [decide_eq_true (List.mem_range.mp hj), Bool.true_and]
  exact h j hj
section
variable {X : Cx} {pins : List (Addr × Obj)} {σ : St} {H : Hp} {s : Shared}
theorem EqD.refl' (I : Inv X pins σ H s) {d : Nat} {x y : V} {b : Bool} (h : EqD X.K H d x y b) : x = y -> b = true := by
 induction h with
 | flat fx fy => rintro rfl; exact eqV_refl fx
 | tups h1 h2 he ih =>
  intro e
  cases e
  have := I.tuple_inj h1 h2
  subst this
  rw [decide_eq_true rfl, Bool.true_and, all_lt, List.all_eq_true]
  intro j hj
  have hj' := List.mem_range.mp hj
  exact ih j _ _ (List.getElem?_eq_getElem hj') (List.getElem?_eq_getElem hj') rfl
 | lsts h1 h2 he ih =>
  intro e
  cases e
  have := I.list_inj h1 h2
  subst this
  rw [decide_eq_true rfl, Bool.true_and, all_lt, List.all_eq_true]
  intro j hj
  have hj' := List.mem_range.mp hj
  exact ih rfl j _ _ (List.getElem?_eq_getElem hj') (List.getElem?_eq_getElem hj') rfl
 | tupF h1 fy => rintro rfl; cases fy
 | Ftup h1 fy => rintro rfl; cases fy
 | lstF h1 fy => rintro rfl; cases fy
 | Flst h1 fy => rintro rfl; cases fy
 | tupL h1 h2 =>
  intro e
  cases e
  obtain ⟨_, _, p, _⟩ := I.tuple h1
  obtain ⟨_, _, q, _⟩ := I.list h2
  obtain ⟨o, ho, hc, _⟩ := p
  obtain ⟨o', _, ho', hc', _⟩ := q
  rw [ho] at ho'
  cases ho'
  rw [hc] at hc'
  exact absurd hc' (by decide)
 | lstT h1 h2 =>
  intro e
  cases e
  obtain ⟨_, _, p, _⟩ := I.tuple h2
  obtain ⟨_, _, q, _⟩ := I.list h1
  obtain ⟨o, ho, hc, _⟩ := p
  obtain ⟨o', _, ho', hc', _⟩ := q
  rw [ho] at ho'
  cases ho'
  rw [hc] at hc'
  exact absurd hc' (by decide)
theorem Vals.at {xs : List V} {its : List Value} (r : Vals xs its) {j : Nat} (h : j < its.toArray.size) : ∃ x, xs[j]? = some x /\ RelV x its.toArray[j] := by
 rw [List.size_toArray] at h
 have hx : j < xs.length := by rw [r.length]; exact h
 have e1 : xs[j]? = some xs[j] := List.getElem?_eq_getElem hx
 obtain ⟨u, hu, ru⟩ := r.get e1
 refine ⟨_, e1, ?_⟩
 rw [List.getElem?_eq_getElem h] at hu
 cases hu
 simpa using ru
theorem EqD.all (I : Inv X pins σ H s) {d : Nat} {x y : V} {b : Bool} (h : EqD X.K H d x y b) : ∀ {A : Around} {u v : Value}, RelV x u -> RelV y v -> A.units + d < cLine ->
  SeqAt.EqAt A s u v b /\ SeqAt.RcAt A s u v b /\ SeqAt.RcNeAt A s u v (!b) := by
 induction h with
 | flat fx fy => exact fun {A u v} rx ry hu => ⟨eqAt_V rx ry fx fy, rcAt_V rx ry fx fy⟩
 | @tups d a c xs ys e h1 h2 he ih =>
  intro A u v rx ry hu
  cases rx
  cases ry
  obtain ⟨its, r1, p1, _⟩ := I.tuple h1
  obtain ⟨its2, r2, p2, _⟩ := I.tuple h2
  have el : ∀ j (q1 : j < its.toArray.size) (q2 : j < its2.toArray.size), SeqAt.EqAt A.in1 s its.toArray[j] its2.toArray[j] (e j) := fun j q1 q2 => by
   obtain ⟨x, e1, rx⟩ := r1.at q1
   obtain ⟨y, e2, ry⟩ := r2.at q2
   exact (ih j x y e1 e2 rx ry (by show A.units + 1 + d < cLine; exact Om.k165 hu)).1
  have sz : its.toArray.size = xs.length /\ its2.toArray.size = ys.length := by
   rw [List.size_toArray, List.size_toArray, r1.length, r2.length]
   exact ⟨rfl, rfl⟩
  have g1 := SeqAt.RcAt.tuples (A := A) p1 p2 (by exact Om.k164 hu) el
  have g2 := SeqAt.RcNeAt.tuples (A := A) p1 p2 (by exact Om.k164 hu) el
  rw [sz.1, sz.2, min_all] at g1 g2
  refine ⟨?_, g1, g2⟩
  by_cases hac : a = c
  ·subst hac
   rw [EqD.refl' I (.tups h1 h2 he) rfl]
   exact SeqAt.EqAt.same _
  ·exact SeqAt.EqAt.of_refs hac g1
 | @lsts d a c xs ys e h1 h2 he ih =>
  intro A u v rx ry hu
  cases rx
  cases ry
  obtain ⟨its, r1, p1, _⟩ := I.list h1
  obtain ⟨its2, r2, p2, _⟩ := I.list h2
  have sz : its.toArray.size = xs.length /\ its2.toArray.size = ys.length := by
   rw [List.size_toArray, List.size_toArray, r1.length, r2.length]
   exact ⟨rfl, rfl⟩
  have g : SeqAt.RcAt A s (.ref a) (.ref c) (decide (xs.length = ys.length) && (List.range xs.length).all fun j => decide (j < ys.length) && e j) /\ SeqAt.RcNeAt A s (.ref a) (.ref c) (!(decide (xs.length = ys.length) && (List.range xs.length).all fun j => decide (j < ys.length) && e j)) := by
   by_cases hl : xs.length = ys.length
   ·have el : ∀ j (q1 : j < its.toArray.size) (q2 : j < its2.toArray.size), SeqAt.EqAt A.in1 s its.toArray[j] its2.toArray[j] (e j) := fun j q1 q2 => by
     obtain ⟨x, e1, rx⟩ := r1.at q1
     obtain ⟨y, e2, ry⟩ := r2.at q2
     exact (ih hl j x y e1 e2 rx ry (by show A.units + 1 + d < cLine; exact Om.k165 hu)).1
    have g1 := SeqAt.RcAt.lists (A := A) p1.isList p2.isList (by rw [sz.1, sz.2, hl]) (by exact Om.k164 hu) el
    have g2 := SeqAt.RcNeAt.lists (A := A) p1.isList p2.isList (by rw [sz.1, sz.2, hl]) (by exact Om.k164 hu) el
    rw [sz.1] at g1 g2
    rw [decide_eq_true hl, Bool.true_and, <- hl, all_lt]
    exact ⟨g1, g2⟩
   ·rw [decide_eq_false hl, Bool.false_and]
    have hz : (its.toArray.size != its2.toArray.size) = true := by rw [sz.1, sz.2]; simpa using hl
    exact ⟨.lists_lengths p1.isList p2.isList hz (by exact Om.k164 hu), .lists_lengths p1.isList p2.isList hz (by exact Om.k164 hu)⟩
  refine ⟨?_, g⟩
  by_cases hac : a = c
  ·subst hac
   rw [EqD.refl' I (.lsts h1 h2 he) rfl]
   exact SeqAt.EqAt.same _
  ·exact SeqAt.EqAt.of_refs hac g.1
 | tupF h1 fy =>
  intro A u v rx ry hu
  cases rx
  obtain ⟨its, r1, p1, _⟩ := I.tuple h1
  exact (tupF_at p1 ry fy (by exact Om.k163 hu)).1
 | Ftup h1 fy =>
  intro A u v rx ry hu
  cases ry
  obtain ⟨its, r1, p1, _⟩ := I.tuple h1
  exact (tupF_at p1 rx fy (by exact Om.k163 hu)).2
 | lstF h1 fy =>
  intro A u v rx ry hu
  cases rx
  obtain ⟨its, r1, p1, _⟩ := I.list h1
  exact (lstF_at p1.isList ry fy (by exact Om.k163 hu)).1
 | Flst h1 fy =>
  intro A u v rx ry hu
  cases ry
  obtain ⟨its, r1, p1, _⟩ := I.list h1
  exact (lstF_at p1.isList rx fy (by exact Om.k163 hu)).2
 | tupL h1 h2 =>
  intro A u v rx ry hu
  cases rx
  cases ry
  obtain ⟨its, r1, p1, _⟩ := I.tuple h1
  obtain ⟨its2, r2, p2, _⟩ := I.list h2
  exact ⟨.tuple_list p1 p2.isList (by exact Om.k163 hu), .tuple_list p1 p2.isList (by exact Om.k163 hu), .tuple_list p1 p2.isList (by exact Om.k163 hu)⟩
 | lstT h1 h2 =>
  intro A u v rx ry hu
  cases rx
  cases ry
  obtain ⟨its, r1, p1, _⟩ := I.list h1
  obtain ⟨its2, r2, p2, _⟩ := I.tuple h2
  exact ⟨.list_tuple p1.isList p2 (by exact Om.k163 hu), .list_tuple p1.isList p2 (by exact Om.k163 hu), .list_tuple p1.isList p2 (by exact Om.k163 hu)⟩
end
section
variable {X : Cx}
end
end L2
namespace L2
open PySem PySem.Spec PyProof.Rows
section
variable {prog : Program} {w : World} {A : Around} {E : Value -> Shared -> Prop}
end
end L2
namespace L2
open PySem PySem.Spec PyProof.Rows
theorem EqD.cast {K : PySem.W.Frag} {H : Hp} {d : Nat} {x y : V} {b b' : Bool} (h : EqD K H d x y b) (e : b = b') : EqD K H d x y b' := e ▸ h
theorem eqVs_range {xs ys : List V} : (decide (xs.length = ys.length) && (List.range xs.length).all fun j => decide (j < ys.length) && eqV (xs.getD j .non) (ys.getD j .non)) = eqVs xs ys := by
 by_cases hl : xs.length = ys.length
 ·rw [decide_eq_true hl, Bool.true_and, <- hl, all_lt, <- range_eqVs hl]
  refine Bool.eq_iff_iff.mpr ?_
  rw [List.all_eq_true, List.all_eq_true]
  refine forall_congr' fun j => forall_congr' fun hj => ?_
  have h1 := List.mem_range.mp hj
  have h2 : j < ys.length := by exact Om.a2 ‹_› ‹_›
  rw [List.getElem?_eq_getElem h1, List.getElem?_eq_getElem h2, List.getD_eq_getElem?_getD, List.getD_eq_getElem?_getD, List.getElem?_eq_getElem h1, List.getElem?_eq_getElem h2]
  rfl
 ·unfold eqVs
  rw [decide_eq_false hl, Bool.false_and, Bool.false_and]
theorem flat_at {xs : List V} (f : xs.all flatV = true) {j : Nat} {x : V} (h : xs[j]? = some x) : flatV x = true := List.all_eq_true.mp f _ (List.mem_of_getElem? h)
section
variable {K : PySem.W.Frag} {H : Hp} {d : Nat} {a c : Addr} {xs ys : List V}
theorem eqd_tup (h1 : SqT K H a xs) (h2 : SqT K H c ys) (f1 : xs.all flatV = true) (f2 : ys.all flatV = true) : EqD K H (d + 1) (.ref a) (.ref c) (eqVs xs ys) := by
 rw [<- eqVs_range]
 refine .tups h1 h2 fun j x y e1 e2 => ?_
 have g1 : xs.getD j .non = x := by rw [List.getD_eq_getElem?_getD, e1]; rfl
 have g2 : ys.getD j .non = y := by rw [List.getD_eq_getElem?_getD, e2]; rfl
 rw [g1, g2]
 exact .flat (flat_at f1 e1) (flat_at f2 e2)
end
end L2
namespace L2
open PySem PySem.Spec PyProof.Rows
structure Dfn (K : PySem.W.Frag) (mg : Str -> Option Value) (x : Str) (st : Stmt) (ps : List Str) (f : Addr) (fd : FuncData) : Prop where
 F : Fun K x x st f fd
 b : Binds K fd ps []
 m : mg x = some (.ref f)
section
variable {X : Cx}
theorem call_tupleK (K : PySem.W.Frag) (h : X.K = K := by rfl) : CallR X (.type "tuple") (fun xs H Q => ∃ p ys, xs = [.ref p] /\ ((SqL K H p ys /\ ∀ l, H l = none -> Q (.ref l) (upd H l (.tup ys))) \/ (SqT K H p ys /\ Q (.ref p) H))) := by subst h; exact call_tuple_of
theorem call_listK (K : PySem.W.Frag) (h : X.K = K := by rfl) : CallR X (.type "list") (fun xs H Q => ∃ p ys, xs = [.ref p] /\ (SqL K H p ys \/ SqT K H p ys) /\ ∀ l, H l = none -> Q (.ref l) (upd H l (.lst ys))) := by subst h; exact call_list_of
end
theorem cut_mem {xs : List V} {lo hi : Option Int} {x : V} (h : x ∈ cutV xs lo hi) : x ∈ xs := by
 unfold cutV at h
 exact List.mem_of_mem_drop (List.mem_of_mem_take h)
end L2
namespace L2
open PySem PySem.Spec PyProof.Rows
section
variable {M : Model} {A : Around} {E : Value -> Shared -> Prop} {s : Shared}
end
end L2
namespace L2
open PySem PySem.Spec PyProof.Rows PySem.W
section
variable {prog : Program} {w : World} {A : Around} {E : Value -> Shared -> Prop} {h : Heap} {g : Array GenState} {d : Drawn} {t : Nat} {os : OsState}
variable {nm q : Str} {C N : Addr} {bs bm bmB : List Value} {hdct : Bool} {sn : List Str} {sub : List Value} {ab : Bool} {col : Option Bool} {dd : Option Addr} {k0 k1 k2 k3 k5 : Option Value} {B newId initId : String}
end
section
variable {prog : Program} {w : World} {A : Around} {E : Value -> Shared -> Prop} {K : Frag} {h : Heap} {g : Array GenState} {d : Drawn} {t : Nat} {os : OsState}
variable {nm q f : Str} {C N x : Addr} {bs bm : List Value} {sn : List Str} {sub : List Value} {ab : Bool} {col : Option Bool} {dd : Option Addr} {k0 k1 k2 k3 k5 : Option Value} {newId : String} {o : Obj} {v : Value}
end
end L2
namespace L2
open PySem PySem.Spec PyProof.Rows
section
variable {X : Cx} {pins : List (Addr × Obj)} {σ : St} {H : Hp} {s : Shared}
end
section
variable {X : Cx} {o e value : Expr} {f : Str} {pos pos' : Pos} {ta tv : TE}
end
section
variable {X : Cx} {k : Nat} {f C : Addr} {fd : FuncData} {ps : List Str} {sp : Sp} {x : Str} {p pos : Pos} {e : Expr} {es : List Expr} {t : TA}
end
end L2
namespace L2
open PySem PySem.Spec PyProof.Rows
section
variable {M : Model} {A : Around} {E : Value -> Shared -> Prop} {env : Env}
variable {nm q : Str} {C N : Addr} {bs bm : List Value} {hdct : Bool} {sn : List Str} {sub : List Value} {ab : Bool} {col : Option Bool} {dd : Option Addr} {k0 k1 k2 k3 k5 : Option Value} {newId : String}
end
section
variable {P : Program} {w : World} {K : PySem.W.Frag} {mg : Str -> Option Value} {base : Heap} {N : List Str} {qual : Str} {scope : Scope} {f : Addr} {cd : Value} {A : Around} {outer : List Env} {s₀ : Shared} {H₀ : Hp} {E : XK}
end
section
variable {P : Program} {w : World} {K : PySem.W.Frag} {mg : Str -> Option Value} {base : Heap} {E : XK}
end
section
variable {X : Cx}
end
end L2
namespace L2
open PySem PySem.Spec PyProof.Rows
section
variable {X : Cx}
theorem call_rangeV : CallR X (.type "range") (fun xs H Q => ∃ n : Nat, xs = [.int (n : Int)] /\ ∀ p, H p = none -> Q (.ref p) (upd H p (.rng 0 n))) := by
 intro pins s σ H xs us Q I r h
 obtain ⟨n, rfl, q⟩ := h
 obtain ⟨u, rfl, rx⟩ := vals1 r
 obtain ⟨t, rfl⟩ := rx
 refine call_range_1 ⟨.ref s.heap.objs.size, _, I.laid (t' := s.toks + 1 + 1) (o := .rng 0 n) (fun b o e => Heap.get?_push_of_some _ e) (Nat.le_refl _) ⟨_, _, _, Heap.get?_push_size _ rfl⟩, rfl, q _ (I.hok.fresh (Nat.le_refl _))⟩
theorem rng_vals : ∀ (n : Nat) (its : List Value), its.length = n -> (∀ (j : Nat) v, its[j]? = some v -> ∃ t, v = .int (j : Int) t) -> Vals (rng n) its := by
 have go : ∀ (xs : List V) (its : List Value), xs.length = its.length -> (∀ (j : Nat) x v, xs[j]? = some x -> its[j]? = some v -> RelV x v) -> Vals xs its := by
  intro xs
  induction xs with
  | nil =>
   intro its hl _
   cases its with
   | nil => exact .nil
   | cons _ _ => cases hl
  | cons x xs ih =>
   intro its hl h
   cases its with
   | nil => cases hl
   | cons v its => exact .cons (h 0 x v rfl rfl) (ih its (Nat.succ.inj hl) fun j y u e1 e2 => h (j + 1) y u (by simpa using e1) (by simpa using e2))
 intro n its hl h
 refine go _ _ (by rw [rng_len, hl]) fun j x v e1 e2 => ?_
 obtain ⟨_, rfl⟩ := rng_get e1
 exact h j v e2
theorem call_listR (hc : X.calm = true) : CallR X (.type "list") (fun xs H Q => ∃ (p : Addr) (n : Nat), xs = [.ref p] /\ H p = some (.rng 0 n) /\ n <= 1000 /\ ∀ l, H l = none -> Q (.ref l) (upd H l (.lst (rng n)))) := by
 intro pins s σ H xs us Q I r h
 obtain ⟨p, n, rfl, hp, hn, q⟩ := h
 obtain ⟨u, rfl, rx⟩ := vals1 r
 cases rx
 obtain ⟨t, u, v, e⟩ := I.hok p _ hp
 have e2 : Builtin.Range.rangeSize 0 (n : Int) 1 = n := by rw [rangeSize_one]; split <;> omega
 refine call_list_range (n := n) (I.ok.hd hc) e (small_one (by exact Om.k162 ) (by exact Om.k161 ) (by exact Om.c2) (by exact Om.c1 ‹_› rfl)) e2 (by exact Om.b1 ‹_› rfl) fun h' tk acc c' kp e' hi => ?_
 refine ⟨.ref s.heap.objs.size, _, I.laid (t' := tk) kp (Nat.le_refl _) (show ObjOk X.prog X.w _ h' _ (.lst (rng n)) from ⟨by rw [rng_len]; exact small6 hn, acc.toList, c', rng_vals n _ (by rw [Array.length_toList]; exact hi.1) fun j w ew => ?_, by rw [e']⟩), rfl, q _ (I.hok.fresh (Nat.le_refl _))⟩
 obtain ⟨t', ht⟩ := hi.2 j w (by simpa using ew)
 refine ⟨t', ?_⟩
 rw [ht, Int.zero_add, Int.mul_one]
end
section
variable (l : Addr) (its : List Value) (n : Nat) (dd : Option Addr) (sl : Array (Option Value)) (k : Int) (t : Tok)
end
end L2
namespace L2
open PySem PySem.Spec PyProof.Rows
section
variable {κ : Type} [DecidableEq κ]
noncomputable def valV (kvs : List (κ × V)) (k : κ) : Option V := (kvs.find? fun kv => decide (kv.1 = k)).map (·.2)
noncomputable def putK (kvs : List (κ × V)) (k : κ) (v : V) : List (κ × V) :=
 if (kvs.any fun kv => decide (kv.1 = k)) = true then kvs.map (fun kv => if kv.1 = k then (kv.1, v) else kv) else kvs ++ [(k, v)]
theorem valV_pos {p : κ × V} {r : List (κ × V)} {k : κ} (e : p.1 = k) : valV (p :: r) k = some p.2 := by simp [valV, List.find?_cons, e]
theorem valV_neg {p : κ × V} {r : List (κ × V)} {k : κ} (e : ¬ p.1 = k) : valV (p :: r) k = valV r k := by simp [valV, List.find?_cons, e]
theorem valV_any (k : κ) : ∀ kvs : List (κ × V), (kvs.any fun kv => decide (kv.1 = k)) = (valV kvs k).isSome
 | [] => rfl
 | p :: r => by
  rw [List.any_cons]
  by_cases e : p.1 = k
  ·simp only [valV_pos e, decide_eq_true e, Bool.true_or, Option.isSome_some]
  ·rw [valV_neg e, decide_eq_false e, Bool.false_or]; exact valV_any k r
theorem length_putK (kvs : List (κ × V)) (k : κ) (v : V) : (putK kvs k v).length <= kvs.length + 1 := by
 unfold putK
 split
 ·rw [List.length_map]; exact Om.k160 
 ·rw [List.length_append, List.length_cons, List.length_nil]; exact Om.k159 
theorem RelO.isSome_eq {o : Option V} {u : Option Value} (r : RelO o u) : o.isSome = u.isSome := by
 cases o with
 | none => cases u with
  | none => rfl
  | some _ => exact (show False from r).elim
 | some _ => cases u with
  | none => exact (show False from r).elim
  | some _ => rfl
theorem KV.any {kvs : List (κ × V)} {vs : List (κ × Value)} (r : KV kvs vs) (k : κ) : (kvs.any fun kv => decide (kv.1 = k)) = vs.any fun kv => decide (kv.1 = k) := by
 unfold KV at r
 induction r with
 | nil => rfl
 | cons h t ih => rw [List.any_cons, List.any_cons, ih, h.1]
theorem KV.repl {kvs : List (κ × V)} {vs : List (κ × Value)} (r : KV kvs vs) (k : κ) {y : V} {u : Value} (ry : RelV y u) :
  KV (kvs.map fun kv => if kv.1 = k then (kv.1, y) else kv) (vs.map fun kv => if kv.1 = k then (kv.1, u) else kv) := by
 unfold KV at r ⊢
 induction r with
 | nil => exact .nil
 | @cons p q ps qs h t ih =>
  rw [List.map_cons, List.map_cons]
  refine .cons ?_ ih
  obtain ⟨h1, h2⟩ := h
  by_cases e : p.1 = k
  ·rw [if_pos e, if_pos (h1.symm.trans e)]; exact ⟨h1, ry⟩
  ·rw [if_neg e, if_neg (fun z => e (h1.trans z))]; exact ⟨h1, h2⟩
theorem KV.put {kvs : List (κ × V)} {vs : List (κ × Value)} (r : KV kvs vs) (k : κ) {y : V} {u : Value} (ry : RelV y u) : KV (putK kvs k y) (stored vs k u) := by
 unfold putK stored
 rw [r.any k]
 by_cases e : (vs.any fun kv => decide (kv.1 = k)) = true
 ·rw [if_pos e, if_pos e]; exact r.repl k ry
 ·rw [if_neg e, if_neg e]; exact Paired.snoc r ⟨rfl, ry⟩
theorem KV.length {kvs : List (κ × V)} {vs : List (κ × Value)} (r : KV kvs vs) : kvs.length = vs.length := Paired.length r
end
theorem kV_is {P : Program} {w : World} {k : Key} {u : Value} (r : RelV (kV k) u) : (mixKind P w).is k u = true := by
 cases k with
 | inl i => obtain ⟨t, e⟩ := (show ∃ t, u = Value.int i t from r); subst e; exact mixKind_int P w i t
 | inr x => obtain ⟨t, e⟩ := (show ∃ t, u = Value.str x t from r); subst e; exact mixKind_str P w x t
theorem items_are {P : Program} {w : World} : ∀ {ks : List Key} {us : List Value}, Vals (ks.map kV) us -> ItemsAre (mixKind P w) ks us
 | [], _, r => by rw [List.map_nil] at r; cases r; exact .nil
 | k :: ks, _, r => by
  rw [List.map_cons] at r
  cases r with
  | cons h t => exact .cons (kV_is h) (items_are t)
noncomputable abbrev KT (H : Hp) : List (List Key × V) -> List (List Key × Addr × Value) -> Prop := Paired fun p q => p.1 = q.1 /\ H q.2.1 = some (.tup (p.1.map kV)) /\ RelV p.2 q.2.2
theorem KT.val {H : Hp} {kvs : List (List Key × V)} {xs : List (List Key × Addr × Value)} (r : KT H kvs xs) (k : List Key) : RelO (valV kvs k) ((atKey xs k).map (·.2)) := by
 induction r with
 | nil => exact True.intro
 | @cons p q ps qs h t ih =>
  obtain ⟨h1, _, h2⟩ := h
  by_cases e : p.1 = k
  ·have e' : q.1 = k := h1.symm.trans e
   have b : atKey (q :: qs) k = some q.2 := by simp [atKey, List.find?_cons, e']
   rw [valV_pos e, b]; exact h2
  ·have e' : ¬ q.1 = k := fun z => e (h1.trans z)
   have b : atKey (q :: qs) k = atKey qs k := by simp [atKey, List.find?_cons, e']
   rw [valV_neg e, b]; exact ih
theorem KT.repl {H : Hp} {kvs : List (List Key × V)} {xs : List (List Key × Addr × Value)} (r : KT H kvs xs) (k : List Key) {y : V} {u : Value} (ry : RelV y u) :
  KT H (kvs.map fun kv => if kv.1 = k then (kv.1, y) else kv) (xs.map (putAt k u)) := by
 induction r with
 | nil => exact .nil
 | @cons p q ps qs h t ih =>
  rw [List.map_cons, List.map_cons]
  refine .cons ?_ ih
  obtain ⟨h1, h2, h3⟩ := h
  unfold putAt
  by_cases e : p.1 = k
  ·rw [if_pos e, if_pos (h1.symm.trans e)]; exact ⟨h1, h2, ry⟩
  ·rw [if_neg e, if_neg (fun z => e (h1.trans z))]; exact ⟨h1, h2, h3⟩
theorem KT.put {H : Hp} {kvs : List (List Key × V)} {xs : List (List Key × Addr × Value)} (r : KT H kvs xs) (k : List Key) {b : Addr} {y : V} {u : Value} (hb : H b = some (.tup (k.map kV))) (ry : RelV y u) :
  KT H (putK kvs k y) (storedH xs k b u) := by
 have e : (kvs.any fun kv => decide (kv.1 = k)) = (atKey xs k).isSome := by
  rw [valV_any, (r.val k).isSome_eq, Option.isSome_map]
 unfold putK storedH
 rw [e]
 by_cases q : (atKey xs k).isSome = true
 ·rw [if_pos q, if_pos q]; exact r.repl k ry
 ·rw [if_neg q, if_neg q]; exact Paired.snoc r ⟨rfl, hb, ry⟩
theorem KT.keeps {H H' : Hp} {kvs : List (List Key × V)} {xs : List (List Key × Addr × Value)} (r : KT H kvs xs) (ht : ∀ b ys, H b = some (.tup ys) -> H' b = some (.tup ys)) : KT H' kvs xs :=
 Paired.mapP r fun _ _ z => ⟨z.1, ht _ _ z.2.1, z.2.2⟩
section
variable {P : Program} {w : World} {H : Hp} {h : Heap} {a : Addr}
theorem rd_of {u : HO} (ok : HOk P w H h) (e : Rd H a u) : ObjOk P w H h a u := e.ok ok
theorem dk_rd {kvs : List (Key × V)} (ok : HOk P w H h) (e : Rd H a (.dK kvs)) : kvs.length <= sizeLine /\ (a == sysModules) = false /\ ∃ vs, KV kvs vs /\ h.DictOf (mixKind P w) a vs :=
 show ObjOk P w H h a (.dK kvs) from rd_of ok e
theorem dk_of {kvs : List (Key × V)} (ok : HOk P w H h) (e : H a = some (.dK kvs)) : kvs.length <= sizeLine /\ (a == sysModules) = false /\ ∃ vs, KV kvs vs /\ h.DictOf (mixKind P w) a vs := dk_rd ok (.inl e)
theorem key_of {ks : List Key} (ok : HOk P w H h) (e : H a = some (.tup (ks.map kV))) : (tupleKind (mixKind P w)).is h ks a := by
 obtain ⟨_, its, r, o, h1, h2, n, h3⟩ := (show ObjOk P w H h a (.tup (ks.map kV)) from ok a _ e)
 exact ⟨o, its.toArray, n, h1, h2, congrArg Prod.fst h3, by simpa using items_are r⟩
theorem dt_rd {kvs : List (List Key × V)} (ok : HOk P w H h) (e : Rd H a (.dT kvs)) : kvs.length <= sizeLine /\ (a == sysModules) = false /\
  ∃ xs, KT H kvs xs /\ h.DictOfH (tupleKind (mixKind P w)) a xs := by
 obtain ⟨z, y, xs, r, o, es, ep, h1, h2, h3, h4, h5⟩ := (show ObjOk P w H h a (.dT kvs) from rd_of ok e)
 refine ⟨z, y, xs, r, o, es, ep, h1, h2, h3, h4, fun x hx => ?_, h5⟩
 have all : ∀ {l : List (List Key × V)} {m : List (List Key × Addr × Value)}, KT H l m -> ∀ x ∈ m, (tupleKind (mixKind P w)).is h x.1 x.2.1 := by
  intro l m q
  induction q with
  | nil => intro x hx; exact nomatch hx
  | @cons p q ps qs hq t ih =>
   intro x hx
   rcases List.mem_cons.mp hx with e | hx
   ·subst e
    exact key_of ok (by rw [<- hq.1]; exact hq.2.1)
   ·exact ih x hx
 exact all r x hx
theorem dt_of {kvs : List (List Key × V)} (ok : HOk P w H h) (e : H a = some (.dT kvs)) : kvs.length <= sizeLine /\ (a == sysModules) = false /\
  ∃ xs, KT H kvs xs /\ h.DictOfH (tupleKind (mixKind P w)) a xs := dt_rd ok (.inl e)
end
noncomputable def DPut (H : Hp) (a : Addr) (y v : V) (H' : Hp) : Prop :=
 (∃ kvs k, H a = some (.dK kvs) /\ y = kV k /\ kvs.length < sizeLine /\ H' = upd H a (.dK (putK kvs k v))) \/
 ∃ kvs k b, H a = some (.dT kvs) /\ y = .ref b /\ H b = some (.tup (k.map kV)) /\ kvs.length < sizeLine /\ H' = upd H a (.dT (putK kvs k v))
theorem DPut.k {H : Hp} {a : Addr} {kvs : List (Key × V)} {k : Key} {v : V} (e : H a = some (.dK kvs)) (hl : kvs.length < sizeLine) : DPut H a (kV k) v (upd H a (.dK (putK kvs k v))) := .inl ⟨kvs, k, e, rfl, hl, rfl⟩
section
variable {X : Cx} {pins : List (Addr × Obj)} {σ : St} {H : Hp} {s : Shared} {a : Addr} {y v : V} {u r : Value} {o : Option V} {A : Around} {E : Value -> Shared -> Prop}
theorem Inv.big (I : Inv X pins σ H s) : sysModules < s.heap.objs.size := by
 have h : mainGlobals < s.heap.objs.size := (I.mod.glob.keeps I.bk).lt
 exact Nat.lt_trans (by decide) h
theorem d_write {h' : Heap} {t' : Nat} {ob : HO} (I : Inv X pins σ H s) (mu : Mut (H a)) (hs : Heap.SameBut a s.heap h') (he : ∃ q, h'.get? a = some q) (new : ObjOk X.prog X.w (upd H a ob) h' a ob) :
  Inv X pins σ (upd H a ob) { s with heap := h', toks := t' } :=
 I.write (x := a) (e := a) mu (.inl rfl) (fun b q hb z => (hs.2 b hb).trans z) he new
theorem dk_new {P : Program} {w : World} {H' : Hp} {h' : Heap} {kvs : List (Key × V)} {vs : List (Key × Value)} (z : kvs.length <= sizeLine) (hd : (a == sysModules) = false) (rel : KV kvs vs) (dd : h'.DictOf (mixKind P w) a vs) :
  ObjOk P w H' h' a (.dK kvs) := ⟨z, hd, vs, rel, dd⟩
theorem d_setItem {H' : Hp} {Q : Unit -> Shared -> Prop} (hu : A.units + 1 < cLine) (I : Inv X pins σ H s) (g : DPut H a y v H') (ry : RelV y u) (rv : RelV v r) (h : ∀ s', Inv X pins σ H' s' -> Q () s') :
  wpAny (model X.prog X.w) A (setItem (.ref a) u r) Q E s := by
 rcases g with ⟨kvs, k, e, ey, l, eH⟩ | ⟨kvs, k, b, e, ey, eb, l, eH⟩
 ·subst ey eH
  obtain ⟨z, hd, vs, rel, dd⟩ := dk_of I.hok e
  have hz : vs.length <= sizeLine := by rw [<- rel.length]; exact z
  have hl : (putK kvs k v).length <= sizeLine := by have := length_putK kvs k v; omega
  refine wpAny_setItem_pairs (hsz := hz) (kV_is ry) dd fun h' dd' hs => h _ ?_
  have he : ∃ q, h'.get? a = some q := let ⟨q, _, _, hq, _⟩ := dd'; ⟨q, hq⟩
  exact d_write I (by rw [e]; exact True.intro) hs he (dk_new hl hd (rel.put k rv) dd')
 ·subst ey eH
  cases (show u = Value.ref b from ry)
  obtain ⟨z, hd, xs, rel, dd⟩ := dt_of I.hok e
  have hz : xs.length <= sizeLine := by rw [<- Paired.length rel]; exact z
  have hl : (putK kvs k v).length <= sizeLine := by have := length_putK kvs k v; omega
  refine wpAny_setItem_heap (hsz := hz) (tupleKind_room_in1 hu) (key_of I.hok eb) dd fun h' dd' hs => h _ ?_
  obtain ⟨q, es, ep, hq, h2, h3, h4, _, h5⟩ := dd'
  refine d_write I (by rw [e]; exact True.intro) hs ⟨q, hq⟩ ⟨hl, hd, _, (rel.put k eb rv).keeps fun c ys ec => ?_, q, es, ep, hq, h2, h3, h4, h5⟩
  rw [upd_ne (ne_of ec e (fun z => nomatch z))]
  exact ec
end
section
variable {X : Cx} {pins : List (Addr × Obj)} {σ : St} {H : Hp} {s : Shared} {a : Addr} {kvs : List (Key × V)} {k : Key} {u : Value} {A : Around} {E : Value -> Shared -> Prop}
end
noncomputable def sDPut (td ty tv : TE) : TS := fun D σ H => tv σ H fun v H1 => td σ H1 fun x H2 => ty σ H2 fun y H3 => ∃ a H4, x = .ref a /\ DPut H3 a y v H4 /\ D.nx σ H4
section
variable {X : Cx} {o i e value : Expr} {pos pos' tpos : Pos} {td ty tv : TE}
theorem ps_dput (hu : X.A.units + 1 < cLine) (ho : PE X o td) (hi : PE X i ty) (hv : PE X value tv) (hs : swapsWith value (some (.Subscript o i pos')) pos.line X.env = pure false) :
  PS X (.Assign [.Subscript o i pos'] value pos) (sDPut td ty tv) := by
 intro pins s σ H D I h
 refine wpAny_Assign_Subscript (thn (hv pins s σ H _ I h) fun r s1 ⟨v, H1, I1, rv, q1⟩ => thn (ho pins s1 σ H1 _ I1 q1) fun u s2 ⟨x, H2, I2, rx, q2⟩ => thn (hi pins s2 σ H2 _ I2 q2) fun iv s3 zz0 => ?_) hs
 obtain ⟨y, H3, I3, ry, a, H4, ex, g, q3⟩ := zz0
 subst ex
 obtain rfl : u = Value.ref a := rx
 exact d_setItem hu I3 g ry rv fun s4 I4 => ⟨σ, H4, I4, q3⟩
end
theorem dk_empty {P : Program} {w : World} {H : Hp} (h : Heap) (hb : sysModules < h.objs.size) : ObjOk P w H (h.push { cls := .type "dict", data := .dict #[] }) h.objs.size (.dK []) :=
 ⟨Nat.zero_le _, beq_eq_false_iff_ne.mpr (Ne.symm (Nat.ne_of_lt hb)), [], .nil, Heap.DictOf.new h⟩
noncomputable def tDNewK : TE := fun _ H Q => ∀ p, H p = none -> Q (.ref p) (upd H p (.dK []))
section
variable {X : Cx} {pos : Pos}
theorem pe_dnewK : PE X (.Dict [] [] pos) tDNewK := fun pins s σ H Q I h =>
 wpAny_Dict_empty ⟨.ref s.heap.objs.size, _, I.laid (a := s.heap.objs.size) (o := .dK []) (t' := s.toks) (fun _ _ q => Heap.get?_push_of_some _ q) (Nat.le_refl _) (dk_empty s.heap I.big), rfl, h _ (I.hok.fresh (Nat.le_refl _))⟩
end
section
variable {X : Cx} {pins : List (Addr × Obj)} {σ : St} {H : Hp} {s : Shared} {a : Addr} {y d : V} {u r : Value} {o : Option V} {A : Around} {E : Value -> Shared -> Prop}
end
section
variable {X : Cx} {o e f : Expr} {apos cpos : Pos} {td ty tx : TE}
end
section
variable {X : Cx} {pins : List (Addr × Obj)} {σ : St} {H : Hp} {s : Shared} {a : Addr} {kvs : List (Key × V)} {A : Around} {E : Value -> Shared -> Prop}
end
section
variable {X : Cx} {pins : List (Addr × Obj)} {σ : St} {H : Hp} {s : Shared} {a : Addr} {y : V} {u : Value} {A : Around} {E : Value -> Shared -> Prop}
end
end L2
namespace L2
open PySem PySem.Spec PyProof.Rows
section
variable {X : Cx}
end
section
variable {κ : Type} [DecidableEq κ]
end
end L2
namespace L2
open PySem PySem.Spec PyProof.Rows
section
variable {X : Cx} {es : List Expr} {te : TE} {t : TA} {p : Pos}
theorem pa_n {x} (ha : PE X (.Name x p) te) (hr : PA X es t) : PA X (.Name x p :: es) (tCons te t) := pa_cons ha hr (by rfl)
theorem pa_b {a o b} (ha : PE X (.BinOp a o b p) te) (hr : PA X es t) : PA X (.BinOp a o b p :: es) (tCons te t) := pa_cons ha hr (by rfl)
end
end L2
namespace L2
open PySem PySem.Spec PyProof.Rows
theorem keyIs_rel {k : Key} {u : Value} (h : keyIs k u = true) : RelV (kV k) u := by
 rcases keyIs_shape h with ⟨i, t, rfl, rfl⟩ | ⟨x, t, rfl, rfl⟩
 ·exact ⟨t, rfl⟩
 ·exact ⟨t, rfl⟩
section
variable {X : Cx} {pins : List (Addr × Obj)} {σ : St} {H : Hp} {s : Shared} {a : Addr} {kvs : List (Key × V)}
end
noncomputable def rSorted (K : PySem.W.Frag) : List V -> Hp -> VK -> Prop := fun xs H Q => ∃ (p : Addr) (ns : List Int), xs = [.ref p] /\ SqL K H p (ns.map V.int) /\ ns.length < 64 /\ ∀ (l : Addr) (ns' : List Int), H l = none -> ns'.Perm ns -> ns'.Pairwise (· <= ·) -> Q (.ref l) (upd H l (.lst (ns'.map V.int)))
theorem call_sorted {X : Cx} (K : PySem.W.Frag) (hK : X.K = K := by rfl) : CallR X (.builtin "sorted") (rSorted K) := by
 subst hK
 intro pins s σ H xs us Q I r h
 obtain ⟨p, ns, rfl, hq, hl, q⟩ := h
 obtain ⟨u, rfl, rx⟩ := vals1 r
 cases rx
 obtain ⟨its, rv, ht, hz⟩ := I.list hq
 have hlen : its.length = ns.length := by rw [<- rv.length, List.length_map]
 refine sorted_ints (vs := its) (ns := ns) ht.isList (intsAre_of rv) (by rw [hlen]; exact hl) fun out ns' a1 a2 a3 => ?_
 obtain ⟨e, he⟩ := sortedAll_at s.heap its out
 have hn : H (s.heap.objs.size + 1) = none := I.hok.fresh (Nat.le_succ _)
 have vv := vals_ints a1
 refine ⟨.ref (s.heap.objs.size + 1), _, I.laid (t' := s.toks) (fun b o e => sortedAll_old e) (Nat.le_succ _) ?_, rfl, q _ ns' hn a2 a3⟩
 exact ⟨Nat.le_trans (m := 64) (by rw [List.length_map, a2.length_eq]; exact Om.d1 ‹_›) (by decide), out.toList, e, vv, by simpa using he⟩
end L2
namespace L2
open PySem PySem.Spec PyProof.Rows
end L2
namespace L2
open PySem PySem.Spec PyProof.Rows
section
variable {prog : Program} {w : World} {A : Around} {R : Result -> Shared -> Prop} {κ : Type} [DecidableEq κ] {knd : PySem.KeyKind prog w κ}
end
end L2
namespace L2
open PySem PySem.Spec PyProof.Rows
end L2
namespace L2
open PySem PySem.Spec PyProof.Rows
theorem Inv.turnedL {X : Cx} {pins : List (Addr × Obj)} {σ : St} {H : Hp} {s : Shared} {h' : Heap} {t' : Nat} {fp : List Addr} (I : Inv X pins σ H s) (k : ∀ b o, b ∉ fp -> s.heap.get? b = some o -> h'.get? b = some o) (hf : ∀ b ∈ fp, FpOk X pins H b) : Inv X pins σ H { s with heap := h', toks := t' } := by
 have nit : ∀ b u, H b = some u -> b ∉ fp := fun b u e z => by rw [(hf b z).1] at e; cases e
 refine I.step (g' := s.gens) (d' := s.drawn) (ch := fp) (fun b hb => ?_) (fun b o _ _ hc e _ => k b o hc e) (fun b o _ _ hc e _ => ⟨o.slots, k b o hc e⟩) (fun _ _ _ _ n => n)
  (fun b o hc e => ⟨o, k b o hc e⟩) (fun _ _ e => e) (fun _ _ _ e => e) (fun b ps e => ⟨#[], by rw [e]; simp⟩) (fun m hm => ?_) (fun b u e => ?_) I.bare
 ·obtain ⟨f0, f1, f2, f3, f4, f5⟩ := hf b hb
  exact ⟨f3, f1, f4, f5⟩
 ·obtain ⟨o, es, ep, ho, r⟩ := hm
  exact ⟨o, es, ep, k _ o (fun z => (hf _ z).2.1 rfl) ho, r⟩
 ·refine (I.hok b u e).stay (fun c v hc q => k c v ?_ q) (fun _ q => q) fun _ _ q => q
  rcases hc with z | z
  ·rw [z]; exact nit b u e
  ·exact nit c _ z
end L2
namespace L2
open PySem PySem.Spec PyProof.Rows
theorem bt_zip : bootBuiltins "zip" = some (Value.type "zip") := by decide +kernel
theorem bt_set : bootBuiltins "set" = some (Value.type "set") := by decide +kernel
end L2
namespace L2
open PySem PySem.Spec PyProof.Rows
section
variable {prog : Program} {w : World} {A : Around} {E : Value -> Shared -> Prop} {s : Shared}
theorem nextT_item {it t : Addr} {i : Nat} {vs : Array Value} {x : Value} {Q : Value -> Shared -> Prop} (gi : s.heap.IsTupleIter it t i) (gt : s.heap.IsTuple t vs) (hx : vs[i]? = some x)
  (q : ∀ h', h'.IsTupleIter it t (i + 1) -> Heap.SameBut it s.heap h' -> Q x { s with heap := h' }) : wpAny (model prog w) A (Builtin.SmallTypes.nextOf (.ref it)) Q E s := by
 obtain ⟨o, eo, co, d⟩ := id gi
 obtain ⟨ot, et, _, nt, dt⟩ := gt
 unfold Builtin.SmallTypes.nextOf
 refine wpAny_bind (wpAny_callSpecial?_slot (name := Str.ofString "__next__") gi.typeIs PySem.F.slot_tuple_iterator_next (wpAny_call_entry PySem.F.slot_tuple_iterator_next gi.typeIs PySem.F.entry_tuple_iterator_next ?_ (PySem.F.args_tuple_iterator_next_1 _)))
 refine wpAny_bind (m := field (.ref it) 0) (wpAny_field eo d (x := .ref t) rfl ?_)
 refine (if_neg (show ¬ ((Value.ref t == Value.none) = true) from Bool.false_ne_true)).symm ▸ wpAny_bind (m := field (.ref it) 1) (wpAny_field eo d (x := .int i 0) rfl (wpAny_bind (m := seqItems? (.ref t)) (wpAny_seqItems et dt ?_)))
 simp only [Int.toNat_natCast, hx]
 refine wpAny_bind (wpAny_setField eo d (by simp) (wpAny_pure ⟨x, rfl, wpAny_pure (q _ ⟨_, Heap.get?_update_self _ eo (Obj.isFreed_of_fields (Obj.data_mapFields d _)), (Obj.cls_mapFields ..).trans co, ?_⟩ (Heap.SameBut.update ..))⟩))
 rw [Obj.data_mapFields d]
 simp [rawInt]
theorem nextT_end {it t : Addr} {i : Nat} {vs : Array Value} {Q : Value -> Shared -> Prop} (hh : A.handled = none) (gi : s.heap.IsTupleIter it t i) (gt : s.heap.IsTuple t vs) (hx : vs[i]? = none)
  (q : ∀ h' e, Heap.ExtBut it s.heap h' -> (∃ o, h'.get? e = some o /\ o.cls = .type "StopIteration") -> E (.ref e) { s with heap := h' }) : wpAny (model prog w) A (Builtin.SmallTypes.nextOf (.ref it)) Q E s := by
 obtain ⟨o, eo, co, d⟩ := id gi
 obtain ⟨ot, et, _, nt, dt⟩ := gt
 unfold Builtin.SmallTypes.nextOf
 refine wpAny_bind (wpAny_callSpecial?_slot (name := Str.ofString "__next__") gi.typeIs PySem.F.slot_tuple_iterator_next (wpAny_call_entry PySem.F.slot_tuple_iterator_next gi.typeIs PySem.F.entry_tuple_iterator_next ?_ (PySem.F.args_tuple_iterator_next_1 _)))
 refine wpAny_bind (m := field (.ref it) 0) (wpAny_field eo d (x := .ref t) rfl ?_)
 refine (if_neg (show ¬ ((Value.ref t == Value.none) = true) from Bool.false_ne_true)).symm ▸ wpAny_bind (m := field (.ref it) 1) (wpAny_field eo d (x := .int i 0) rfl (wpAny_bind (m := seqItems? (.ref t)) (wpAny_seqItems et dt ?_)))
 simp only [Int.toNat_natCast, hx]
 refine wpAny_bind (wpAny_rule (wpAny_bind (wpAny_setField eo d (by simp) (wpAny_bind (m := newExc (.type "StopIteration") []) ?_))))
 simp only [newExc, newTuple]
 refine wpAny_bind (wpAny_newObj_type (wpAny_bind (m := firstArgMember _ _) (wpAny_of_eq (a := Value.none) (by first | rfl | (simp only [firstArgMember]; rfl)) (wpAny_newObj_type ?_ (by size_fits)))) (by size_fits))
 simp only [raiseNew]
 refine wpAny_bind (wpAny_handled ?_)
 rw [show A.in1.handled = none from hh]
 exact wpAny_bind (wpAny_pure (wpAny_throw (q _ _ (((Heap.SameBut.update ..).extBut.push _).push _) ⟨_, Heap.get?_push_size _ rfl, rfl⟩)))
theorem zipT_item {z ti to i1 i2 l1 l2 : Addr} {k1 k2 : Nat} {xs ys : Array Value} {x y a b : Value} {Q : Value -> Shared -> Prop} (D : ZipApart z ti to i1 i2 l1 l2) (gz : IsZip s.heap z ti to .none) (gi : IsPair s.heap ti (.ref i1) (.ref i2)) (go : IsPair s.heap to a b)
  (g1 : s.heap.IsTupleIter i1 l1 k1) (g2 : s.heap.IsTupleIter i2 l2 k2) (t1 : s.heap.IsTuple l1 xs) (t2 : s.heap.IsTuple l2 ys) (hx : xs[k1]? = some x) (hy : ys[k2]? = some y)
  (q : ∀ h', IsZip h' z ti to (rawInt s.heap.objs.size) -> IsPair h' to x y -> h'.IsTupleIter i1 l1 (k1 + 1) -> h'.IsTupleIter i2 l2 (k2 + 1) -> IsPair h' s.heap.objs.size x y ->
   (∀ c o, c ≠ z -> c ≠ to -> c ≠ i1 -> c ≠ i2 -> s.heap.get? c = some o -> h'.get? c = some o) -> Q (.ref s.heap.objs.size) { s with heap := h' }) :
  wpAny (model prog w) A (Builtin.«zip.__next__» ⟨[.ref z], []⟩) (fun fin s' => ∃ v, fin = .done (.ret v) /\ Q v s') E s := by
 refine wpAny_bind (m := field (.ref z) 2) (wpAny_field gz rfl (x := .bool false) rfl ?_)
 refine wpAny_bind (m := field (.ref z) 3) (wpAny_field gz rfl (x := .ref ti) rfl (wpAny_bind (wpAny_seqItems gi rfl ?_)))
 refine wpAny_bind (m := Builtin.SmallTypes.ownedTupleIsFree (.ref z)) ?_
 unfold Builtin.SmallTypes.ownedTupleIsFree
 refine wpAny_bind (wpAny_field gz rfl (x := .none) rfl (wpAny_pure ?_))
 simp only [if_true]
 refine wpAny_bind (wpAny_rule (wpAny_bind (wpAny_field gz rfl (x := .ref to) rfl (wpAny_bind (wpAny_setField_rec gz (by simp) fun ha za sa => wpAny_bind ?_)))))
 replace za : IsZip ha z ti to .ellipsis := za
 simp only [List.zipIdx_cons, List.zipIdx_nil, List.forIn_cons, List.forIn_nil]
 refine wpAny_bind (wpAny_bind (wpAny_onRaise (wpAny_bind (m := Builtin.SmallTypes.nextOf (.ref i1)) ?_)))
 refine nextT_item (g1.extBut sa.extBut D.i1z) (t1.extBut sa.extBut D.l1z) hx fun hb g1b sb => wpAny_pure ?_
 have ob : IsPair hb to a b := sb.extBut _ _ D.TOi1 (sa.extBut _ _ D.TOz go)
 refine wpAny_bind (wpAny_seqItems ob rfl (wpAny_bind (wpAny_updateSeq_pair ob fun hc oc sc => wpAny_bind (wpAny_letGo (wpAny_pure ?_)))))
 replace oc : IsPair hc to x b := oc
 refine wpAny_bind (wpAny_bind (wpAny_onRaise (wpAny_bind (m := Builtin.SmallTypes.nextOf (.ref i2)) ?_)))
 refine nextT_item (((g2.extBut sa.extBut D.i2z).extBut sb.extBut D.i12.symm).extBut sc.extBut D.TOi2.symm) (((t2.extBut sa.extBut D.l2z).extBut sb.extBut D.l2i1).extBut sc.extBut D.l2TO) hy fun hd g2d sd => wpAny_pure ?_
 have od : IsPair hd to x b := sd.extBut _ _ D.TOi2 oc
 refine wpAny_bind (wpAny_seqItems od rfl (wpAny_bind (wpAny_updateSeq_pair od fun he oe se => wpAny_bind (wpAny_letGo (wpAny_pure (wpAny_pure ?_))))))
 replace oe : IsPair he to x y := oe
 refine wpAny_bind (wpAny_seqItems oe rfl (wpAny_bind (wpAny_newTuple ?_)))
 have ze : IsZip he z ti to .ellipsis := se.extBut _ _ D.TOz.symm (sd.extBut _ _ D.i2z.symm (sc.extBut _ _ D.TOz.symm (sb.extBut _ _ D.i1z.symm za)))
 have hsz : he.objs.size = s.heap.objs.size := by rw [se.1, sd.1, sc.1, sb.1, sa.1]
 have zlt : z < he.objs.size := Heap.lt_size ze
 have g1e : he.IsTupleIter i1 l1 (k1 + 1) := ((g1b.extBut sc.extBut D.TOi1.symm).extBut sd.extBut D.i12).extBut se.extBut D.TOi1.symm
 have g2e : he.IsTupleIter i2 l2 (k2 + 1) := g2d.extBut se.extBut D.TOi2.symm
 refine wpAny_bind (m := Builtin.SmallTypes.ownedTupleHandOut (.ref z) (.ref he.objs.size)) ?_
 unfold Builtin.SmallTypes.ownedTupleHandOut
 have zf : IsZip (he.push { cls := .type "tuple", data := .seq #[x, y] }) z ti to .ellipsis := Heap.get?_push_of_some _ ze
 refine wpAny_bind (wpAny_setField_rec zf (by simp) fun hg zg sg => ?_)
 replace zg : IsZip hg z ti to (rawInt he.objs.size) := zg
 refine wpAny_setField_rec zg (by simp) fun hk zk sk => wpAny_pure ⟨_, rfl, ?_⟩
 replace zk : IsZip hk z ti to (rawInt he.objs.size) := zk
 have up : ∀ c o, c ≠ z -> he.get? c = some o -> hk.get? c = some o := fun c o n e => sk.extBut _ _ n (sg.extBut _ _ n (Heap.get?_push_of_some _ e))
 have pk : IsPair hk he.objs.size x y := sk.extBut _ _ (Nat.ne_of_gt zlt) (sg.extBut _ _ (Nat.ne_of_gt zlt) (Heap.get?_push_size _ rfl))
 show Q (.ref he.objs.size) _
 rw [hsz] at zk pk ⊢
 refine q hk zk (up _ _ D.TOz oe) ?_ ?_ pk fun c o n1 n2 n3 n4 e => up c o n1 (se.extBut _ _ n2 (sd.extBut _ _ n4 (sc.extBut _ _ n2 (sb.extBut _ _ n3 (sa.extBut _ _ n1 e)))))
 ·exact let ⟨o, e, r⟩ := g1e; ⟨o, up _ o D.i1z e, r⟩
 ·exact let ⟨o, e, r⟩ := g2e; ⟨o, up _ o D.i2z e, r⟩
theorem zipT_end {z ti to i1 i2 l1 l2 : Addr} {k1 k2 : Nat} {xs ys : Array Value} {a b : Value} {Q : Fin -> Shared -> Prop} (hh : A.handled = none) (D : ZipApart z ti to i1 i2 l1 l2) (gz : IsZip s.heap z ti to .none) (gi : IsPair s.heap ti (.ref i1) (.ref i2)) (go : IsPair s.heap to a b)
  (g1 : s.heap.IsTupleIter i1 l1 k1) (g2 : s.heap.IsTupleIter i2 l2 k2) (t1 : s.heap.IsTuple l1 xs) (t2 : s.heap.IsTuple l2 ys) (hend : xs[k1]? = none \/ ys[k2]? = none)
  (q : ∀ h' e, (∀ c o, c ≠ z -> c ≠ to -> c ≠ i1 -> c ≠ i2 -> s.heap.get? c = some o -> h'.get? c = some o) -> (∃ o, h'.get? e = some o /\ o.cls = .type "StopIteration") -> E (.ref e) { s with heap := h' }) :
  wpAny (model prog w) A (Builtin.«zip.__next__» ⟨[.ref z], []⟩) Q E s := by
 refine wpAny_bind (m := field (.ref z) 2) (wpAny_field gz rfl (x := .bool false) rfl ?_)
 refine wpAny_bind (m := field (.ref z) 3) (wpAny_field gz rfl (x := .ref ti) rfl (wpAny_bind (wpAny_seqItems gi rfl ?_)))
 refine wpAny_bind (m := Builtin.SmallTypes.ownedTupleIsFree (.ref z)) ?_
 unfold Builtin.SmallTypes.ownedTupleIsFree
 refine wpAny_bind (wpAny_field gz rfl (x := .none) rfl (wpAny_pure ?_))
 simp only [if_true]
 refine wpAny_bind (wpAny_rule (wpAny_bind (wpAny_field gz rfl (x := .ref to) rfl (wpAny_bind (wpAny_setField_rec gz (by simp) fun ha za sa => wpAny_bind ?_)))))
 replace za : IsZip ha z ti to .ellipsis := za
 simp only [List.zipIdx_cons, List.zipIdx_nil, List.forIn_cons, List.forIn_nil]
 refine wpAny_bind (wpAny_bind (wpAny_onRaise (wpAny_bind (m := Builtin.SmallTypes.nextOf (.ref i1)) ?_)))
 cases hx : xs[k1]? with
 | none =>
  refine nextT_end hh (g1.extBut sa.extBut D.i1z) (t1.extBut sa.extBut D.l1z) hx fun hb e sb zz0 => ?_
  obtain ⟨oe, ee, ce⟩ := zz0
  have zb : IsZip hb z ti to .ellipsis := sb _ _ D.i1z.symm za
  have ne : e ≠ z := fun u => by subst u; rw [zb] at ee; cases ee; simp at ce
  exact wpAny_setField_rec zb (by simp) fun hc _ sc => q hc e (fun c o n1 _ n3 _ u => sc.extBut _ _ n1 (sb _ _ n3 (sa.extBut _ _ n1 u))) ⟨oe, sc.extBut _ _ ne ee, ce⟩
 | some x =>
  have hy : ys[k2]? = none := by
   rcases hend with u | u
   ·rw [hx] at u; cases u
   ·exact u
  refine nextT_item (g1.extBut sa.extBut D.i1z) (t1.extBut sa.extBut D.l1z) hx fun hb g1b sb => wpAny_pure ?_
  have ob : IsPair hb to a b := sb.extBut _ _ D.TOi1 (sa.extBut _ _ D.TOz go)
  refine wpAny_bind (wpAny_seqItems ob rfl (wpAny_bind (wpAny_updateSeq_pair ob fun hc oc sc => wpAny_bind (wpAny_letGo (wpAny_pure ?_)))))
  refine wpAny_bind (wpAny_bind (wpAny_onRaise (wpAny_bind (m := Builtin.SmallTypes.nextOf (.ref i2)) ?_)))
  refine nextT_end hh (((g2.extBut sa.extBut D.i2z).extBut sb.extBut D.i12.symm).extBut sc.extBut D.TOi2.symm) (((t2.extBut sa.extBut D.l2z).extBut sb.extBut D.l2i1).extBut sc.extBut D.l2TO) hy fun hd e sd zz0 => ?_
  obtain ⟨oe, ee, ce⟩ := zz0
  have zd : IsZip hd z ti to .ellipsis := sd _ _ D.i2z.symm (sc.extBut _ _ D.TOz.symm (sb.extBut _ _ D.i1z.symm za))
  have ne : e ≠ z := fun u => by subst u; rw [zd] at ee; cases ee; simp at ce
  exact wpAny_setField_rec zd (by simp) fun he _ se => q he e (fun c o n1 n2 n3 n4 u => se.extBut _ _ n1 (sd _ _ n4 (sc.extBut _ _ n2 (sb.extBut _ _ n3 (sa.extBut _ _ n1 u))))) ⟨oe, se.extBut _ _ ne ee, ce⟩
noncomputable abbrev zt1 (h : Heap) (l1 : Addr) : Heap := h.push { cls := .type "tuple_iterator", data := .fields #[.ref l1, .int 0 0] }
noncomputable abbrev zt2 (h : Heap) (l1 l2 : Addr) : Heap := (zt1 h l1).push { cls := .type "tuple_iterator", data := .fields #[.ref l2, .int 0 0] }
noncomputable abbrev zt3 (h : Heap) (l1 l2 : Addr) : Heap := (zt2 h l1 l2).push { cls := .type "tuple", data := .seq #[.ref h.objs.size, .ref (zt1 h l1).objs.size] }
noncomputable abbrev zt4 (h : Heap) (l1 l2 : Addr) : Heap := (zt3 h l1 l2).push { cls := .type "tuple", data := .seq #[.none, .none] }
noncomputable abbrev zt5 (h : Heap) (l1 l2 : Addr) : Heap := (zt4 h l1 l2).push { cls := .type "zip", data := .fields #[.none, .bool false, .bool false, .ref (zt2 h l1 l2).objs.size, .ref (zt3 h l1 l2).objs.size] }
theorem meets_zipT (l1 l2 : Addr) (xs ys : Array Value) : Meets (Builtin.«zip.__new__» ⟨[.type "zip", .ref l1, .ref l2], []⟩) (fun _ R s => s.heap.IsTuple l1 xs /\ s.heap.IsTuple l2 ys /\ R (.ok (.ret (.ref (zt4 s.heap l1 l2).objs.size))) { s with heap := zt5 s.heap l1 l2 }) :=
 .of_wp fun prog w A R s h => by
  obtain ⟨hp, g, d, tk, os⟩ := s
  obtain ⟨t1, t2, h⟩ := h
  have hsub := sub_zip
  have u1 : Heap.IsTuple (Shared.heap ⟨hp, g, d, tk, os⟩) l1 xs := t1
  have u2 : Heap.IsTuple (Shared.heap ⟨hp.push { cls := .type "tuple_iterator", data := .fields #[.ref l1, .int 0 0] }, g, d, tk, os⟩) l2 ys := Heap.IsTuple.push t2 _
  wp_walk using wpAny_pyIter_tuple u1, wpAny_pyIter_tuple u2
  exact ⟨_, rfl, h⟩
theorem call_zipT {l1 l2 : Addr} {xs ys : Array Value} {Q : Value -> Shared -> Prop} (t1 : s.heap.IsTuple l1 xs) (t2 : s.heap.IsTuple l2 ys)
  (h : ∀ h', IsZip h' (s.heap.objs.size + 4) (s.heap.objs.size + 2) (s.heap.objs.size + 3) .none -> IsPair h' (s.heap.objs.size + 2) (.ref s.heap.objs.size) (.ref (s.heap.objs.size + 1)) -> IsPair h' (s.heap.objs.size + 3) .none .none ->
   h'.IsTupleIter s.heap.objs.size l1 0 -> h'.IsTupleIter (s.heap.objs.size + 1) l2 0 -> (∀ c o, s.heap.get? c = some o -> h'.get? c = some o) -> Q (.ref (s.heap.objs.size + 4)) { s with heap := h' }) :
  wpAny (model prog w) A (call (.type "zip") [.ref l1, .ref l2]) Q E s := by
 refine callType_new PySem.F.called_zip (by decide) (PySem.F.typeCall_zip_2 _ _) (PySem.F.newCall_zip_2 _ _) (fun obj => PySem.F.args_object_init_3 obj _ _) PySem.F.entry_zip_new (meets_zipT l1 l2 xs ys) ⟨t1, t2, ?_⟩
 have z1 : (zt1 s.heap l1).objs.size = s.heap.objs.size + 1 := Heap.size_push ..
 have z2 : (zt2 s.heap l1 l2).objs.size = s.heap.objs.size + 2 := by rw [Heap.size_push, z1]
 have z3 : (zt3 s.heap l1 l2).objs.size = s.heap.objs.size + 3 := by rw [Heap.size_push, z2]
 have z4 : (zt4 s.heap l1 l2).objs.size = s.heap.objs.size + 4 := by rw [Heap.size_push, z3]
 have p5 : ∀ c o, (zt4 s.heap l1 l2).get? c = some o -> (zt5 s.heap l1 l2).get? c = some o := fun c o e => Heap.get?_push_of_some _ e
 have p4 : ∀ c o, (zt3 s.heap l1 l2).get? c = some o -> (zt5 s.heap l1 l2).get? c = some o := fun c o e => p5 c o (Heap.get?_push_of_some _ e)
 have p3 : ∀ c o, (zt2 s.heap l1 l2).get? c = some o -> (zt5 s.heap l1 l2).get? c = some o := fun c o e => p4 c o (Heap.get?_push_of_some _ e)
 have p2 : ∀ c o, (zt1 s.heap l1).get? c = some o -> (zt5 s.heap l1 l2).get? c = some o := fun c o e => p3 c o (Heap.get?_push_of_some _ e)
 have g5 : (zt5 s.heap l1 l2).get? (zt4 s.heap l1 l2).objs.size = some _ := Heap.get?_push_size _ rfl
 have g4 : (zt5 s.heap l1 l2).get? (zt3 s.heap l1 l2).objs.size = some _ := p5 _ _ (Heap.get?_push_size _ rfl)
 have g3 : (zt5 s.heap l1 l2).get? (zt2 s.heap l1 l2).objs.size = some _ := p4 _ _ (Heap.get?_push_size _ rfl)
 have g2 : (zt5 s.heap l1 l2).get? (zt1 s.heap l1).objs.size = some _ := p3 _ _ (Heap.get?_push_size _ rfl)
 have g1 : (zt5 s.heap l1 l2).get? s.heap.objs.size = some _ := p2 _ _ (Heap.get?_push_size _ rfl)
 show _ /\ _
 rw [z2, z3, z4] at g5
 rw [z1, z2] at g3
 rw [z3] at g4
 rw [z1] at g2
 rw [z4]
 exact ⟨⟨_, g5, rfl⟩, h _ g5 g3 g4 ⟨_, g1, rfl, rfl⟩ ⟨_, g2, rfl, rfl⟩ fun c o e => p2 c o (Heap.get?_push_of_some _ e)⟩
theorem nextZT_item {z ti to i1 i2 l1 l2 : Addr} {k1 k2 : Nat} {xs ys : Array Value} {x y a b : Value} {Q : Option Value -> Shared -> Prop} (D : ZipApart z ti to i1 i2 l1 l2) (gz : IsZip s.heap z ti to .none) (gi : IsPair s.heap ti (.ref i1) (.ref i2)) (go : IsPair s.heap to a b)
  (g1 : s.heap.IsTupleIter i1 l1 k1) (g2 : s.heap.IsTupleIter i2 l2 k2) (t1 : s.heap.IsTuple l1 xs) (t2 : s.heap.IsTuple l2 ys) (hx : xs[k1]? = some x) (hy : ys[k2]? = some y)
  (q : ∀ h', IsZip h' z ti to (rawInt s.heap.objs.size) -> IsPair h' to x y -> h'.IsTupleIter i1 l1 (k1 + 1) -> h'.IsTupleIter i2 l2 (k2 + 1) -> IsPair h' s.heap.objs.size x y ->
   (∀ c o, c ≠ z -> c ≠ to -> c ≠ i1 -> c ≠ i2 -> s.heap.get? c = some o -> h'.get? c = some o) -> Q (some (.ref s.heap.objs.size)) { s with heap := h' }) : wpAny (model prog w) A (pyNext (.ref z)) Q E s := by
 have hT : s.TypeIs (.ref z) "zip" := ⟨_, gz, rfl⟩
 unfold pyNext
 exact wpAny_bind (wpAny_attempt (wpAny_callSpecial?_slot (name := Str.ofString "__next__") hT PySem.F.slot_zip_next (wpAny_call_entry PySem.F.slot_zip_next hT PySem.F.entry_zip_next (zipT_item D gz gi go g1 g2 t1 t2 hx hy fun h' a1 a2 a3 a4 a5 a6 => wpAny_pure (q h' a1 a2 a3 a4 a5 a6)) (PySem.F.args_zip_next_1 _))))
theorem nextZT_end {z ti to i1 i2 l1 l2 : Addr} {k1 k2 : Nat} {xs ys : Array Value} {a b : Value} {Q : Option Value -> Shared -> Prop} (hh : A.handled = none) (D : ZipApart z ti to i1 i2 l1 l2) (gz : IsZip s.heap z ti to .none) (gi : IsPair s.heap ti (.ref i1) (.ref i2)) (go : IsPair s.heap to a b)
  (g1 : s.heap.IsTupleIter i1 l1 k1) (g2 : s.heap.IsTupleIter i2 l2 k2) (t1 : s.heap.IsTuple l1 xs) (t2 : s.heap.IsTuple l2 ys) (hend : xs[k1]? = none \/ ys[k2]? = none)
  (q : ∀ h', (∀ c o, c ≠ z -> c ≠ to -> c ≠ i1 -> c ≠ i2 -> s.heap.get? c = some o -> h'.get? c = some o) -> Q none { s with heap := h' }) : wpAny (model prog w) A (pyNext (.ref z)) Q E s := by
 have hT : s.TypeIs (.ref z) "zip" := ⟨_, gz, rfl⟩
 unfold pyNext
 refine wpAny_bind (wpAny_attempt (wpAny_callSpecial?_slot (name := Str.ofString "__next__") hT PySem.F.slot_zip_next (wpAny_call_entry PySem.F.slot_zip_next hT PySem.F.entry_zip_next (zipT_end hh D gz gi go g1 g2 t1 t2 hend fun h' e k ⟨o, eo, co⟩ => ?_) (PySem.F.args_zip_next_1 _))))
 exact wpAny_bind (wpAny_isInstance (T := "StopIteration") (b := true) ⟨o, eo, co⟩ isSubtype_stop (wpAny_pure (q _ k)))
end
noncomputable def ItzT (K : PySem.W.Frag) (l1 l2 : Addr) : It :=
  ⟨fun i H => ∃ xs ys x y, SqT K H l1 xs /\ SqT K H l2 ys /\ xs[i]? = some x /\ ys[i]? = some y,
   fun i H v H' => ∃ p x y, v = .ref p /\ H p = none /\ (∀ xs, SqT K H l1 xs -> xs[i]? = some x) /\ (∀ ys, SqT K H l2 ys -> ys[i]? = some y) /\ H' = upd H p (.tup [x, y]),
   fun i H => ∃ xs ys, SqT K H l1 xs /\ SqT K H l2 ys /\ (xs.length <= i \/ ys.length <= i)⟩
structure ZTAt (z TI TO i1 i2 l1 l2 : Addr) (i : Nat) (h : Heap) : Prop where
 z : IsZip h z TI TO .none
 ti : IsPair h TI (.ref i1) (.ref i2)
 to : ∃ a b, IsPair h TO a b
 i1 : h.IsTupleIter i1 l1 i
 i2 : h.IsTupleIter i2 l2 i
theorem itT_at {h h' : Heap} {a t : Addr} {i : Nat} (x : h.IsTupleIter a t i) (k : ∀ o, h.get? a = some o -> h'.get? a = some o) : h'.IsTupleIter a t i := let ⟨o, e, r⟩ := x; ⟨o, k o e, r⟩
theorem turn_zipT {P : Program} {w : World} {K : PySem.W.Frag} {elts : List Expr} {x1} {tpos : Pos} {z TI TO i1 i2 l1 l2 : Addr} (D : ZipApart z TI TO i1 i2 l1 l2) : Turn P w K (.Tuple elts x1 tpos) (ItzT K l1 l2) [z, TI, TO, i1, i2] z (fun i h => ZTAt z TI TO i1 i2 l1 l2 i h) where
 mem := by simp
 obj := fun i h st b hb => by
  simp only [List.mem_cons, List.not_mem_nil, or_false] at hb
  rcases hb with rfl | rfl | rfl | rfl | rfl
  ·exact ⟨_, st.z, fun v q => by cases q⟩
  ·exact ⟨_, st.ti, fun v q => by cases q⟩
  ·obtain ⟨a, b, e⟩ := st.to
   exact ⟨_, e, fun v q => by cases q⟩
  ·obtain ⟨o, e, c, d⟩ := st.i1
   exact ⟨o, e, fun v q => by rw [d] at q; cases q⟩
  ·obtain ⟨o, e, c, d⟩ := st.i2
   exact ⟨o, e, fun v q => by rw [d] at q; cases q⟩
 keep := fun i h h' st k => ⟨k z (by simp) _ st.z, k TI (by simp) _ st.ti, let ⟨a, b, e⟩ := st.to; ⟨a, b, k TO (by simp) _ e⟩, itT_at st.i1 fun o e => k i1 (by simp) o e, itT_at st.i2 fun o e => k i2 (by simp) o e⟩
 item := by
  intro X hP hw hK hc i pins s σ H E I hf st hg
  subst hP hw hK
  obtain ⟨xs, ys, x, y, hq1, hq2, hx, hy⟩ := hg
  obtain ⟨its1, rv1, p1, hz1⟩ := I.tuple hq1
  obtain ⟨its2, rv2, p2, hz2⟩ := I.tuple hq2
  obtain ⟨u, hu, ru⟩ := rv1.get hx
  obtain ⟨v, hv, rv⟩ := rv2.get hy
  obtain ⟨a, b, hTO⟩ := st.to
  refine nextZT_item D st.z st.ti hTO st.i1 st.i2 p1 p2 (x := u) (y := v) (by simpa using hu) (by simpa using hv) fun h' z1 to1 j1 j2 htup keep => ⟨_, rfl, ?_⟩
  refine wpAny_letOwnedTupleGo_zip (s := { s with heap := h' }) z1 fun h2 z2 sb => ?_
  have hnone : H s.heap.objs.size = none := I.hok.fresh (Nat.le_refl _)
  have hfp : ∀ c ∈ [z, TI, TO, i1, i2], c < s.heap.objs.size := fun c hc => by
   simp only [List.mem_cons, List.not_mem_nil, or_false] at hc
   rcases hc with rfl | rfl | rfl | rfl | rfl
   ·exact Heap.lt_size st.z
   ·exact Heap.lt_size st.ti
   ·exact Heap.lt_size hTO
   ·obtain ⟨o, e, _⟩ := st.i1; exact Heap.lt_size e
   ·obtain ⟨o, e, _⟩ := st.i2; exact Heap.lt_size e
  have I1 : Inv X pins σ (upd H s.heap.objs.size (.tup [x, y])) { s with heap := s.heap.push { cls := .type "tuple", data := .seq #[u, v] } } :=
   I.laid (t' := s.toks) (fun b u e => Heap.get?_push_of_some _ e) (Nat.le_refl _) ⟨(show 2 <= sizeLine by decide), [u, v], .cons ru (.cons rv .nil), ⟨_, Heap.get?_push_size _ rfl, rfl, _, rfl⟩⟩
  have hkk : ∀ c o, c ∉ [z, TI, TO, i1, i2] -> (s.heap.push { cls := .type "tuple", data := .seq #[u, v] }).get? c = some o -> h2.get? c = some o := fun c o hc e => by
   simp only [List.mem_cons, List.not_mem_nil, or_false, not_or] at hc
   rw [sb.2 c hc.1]
   by_cases q : c = s.heap.objs.size
   ·subst q
    rw [Heap.get?_push_size _ rfl] at e
    cases e
    exact htup
   ·rw [Heap.get?_push_ne _ _ _ q] at e
    exact keep c o hc.1 hc.2.2.1 hc.2.2.2.1 hc.2.2.2.2 e
  have hf' : ∀ c ∈ [z, TI, TO, i1, i2], FpOk X pins (upd H s.heap.objs.size (.tup [x, y])) c := fun c hc => by
   obtain ⟨f0, r⟩ := hf c hc
   exact ⟨by rw [upd_ne (Nat.ne_of_lt (hfp c hc))]; exact f0, r⟩
  have I2 : Inv X pins σ (upd H s.heap.objs.size (.tup [x, y])) { s with heap := h2 } := I1.turnedL (t' := s.toks) hkk hf'
  refine ⟨.ref s.heap.objs.size, _, I2, rfl, ⟨_, x, y, rfl, hnone, fun l h => by rw [I.tuple_inj h hq1]; exact hx, fun l h => by rw [I.tuple_inj h hq2]; exact hy, rfl⟩, ?_, fun c hc => (hf' c hc).1⟩
  exact ⟨z2, (sb.2 TI D.TIz).trans (keep TI _ D.TIz D.TITO D.TIi1 D.TIi2 st.ti), ⟨u, v, (sb.2 TO D.TOz).trans to1⟩, itT_at j1 fun o e => (sb.2 i1 D.i1z).trans e, itT_at j2 fun o e => (sb.2 i2 D.i2z).trans e⟩
 done := by
  intro X hP hw hK hc i pins s σ H E I hf st hg
  subst hP hw hK
  obtain ⟨xs, ys, hq1, hq2, hend⟩ := hg
  obtain ⟨its1, rv1, p1, hz1⟩ := I.tuple hq1
  obtain ⟨its2, rv2, p2, hz2⟩ := I.tuple hq2
  obtain ⟨a, b, hTO⟩ := st.to
  have h1 := rv1.length
  have h2 := rv2.length
  refine nextZT_end (I.ok.hd hc) D st.z st.ti hTO st.i1 st.i2 p1 p2 (hend.imp (fun h => by simp; exact Om.k158 h1 h) fun h => by simp; exact Om.k158 h2 h) fun h' keep => ⟨rfl, I.turnedL (t' := s.toks) (fun c o hc e => ?_) hf⟩
  simp only [List.mem_cons, List.not_mem_nil, or_false, not_or] at hc
  exact keep c o hc.1 hc.2.2.1 hc.2.2.2.1 hc.2.2.2.2 e
 self := fun _ _ _ _ _ st h => wpAny_pyIter_zip st.z h
noncomputable def iZipT (K : PySem.W.Frag) (ta : TA) : TI := fun σ H R => ta σ H fun vs H1 => ∃ l1 l2 xs ys, vs = [.ref l1, .ref l2] /\ SqT K H1 l1 xs /\ SqT K H1 l2 ys /\ R (ItzT K l1 l2) H1
theorem pi_zipT {X : Cx} {elts : List Expr} {x1} {tpos : Pos} {a b : Expr} {ta : TA} {p pos : Pos} (K : PySem.W.Frag) (hg : Gl X "zip") (hm : X.mg "zip" = none) (ha : PA X [a, b] ta) (hK : X.K = K := by rfl) (hs : starEach [a, b] X.env = [(false, eval a X.env), (false, eval b X.env)] := by rfl) (hs2 : starEach [b] X.env = [(false, eval b X.env)] := by rfl) :
  PI X (.Tuple elts x1 tpos) (.Call (.Name "zip" p) [a, b] [] pos) (iZipT K ta) := by
 subst hK
 intro pins s σ H R I h
 refine Call_ (ld_blt I hg hm bt_zip (PyProof.Rows.callWith_type1 (thn (ha pos pins s σ H _ I h) fun us s1 zz0 => ?_) (by rw [hs, hs2]) (by rw [hs2]; rfl)))
 obtain ⟨vs, H1, I1, r1, q1⟩ := zz0
 obtain ⟨l1, l2, xs, ys, e, hq1, hq2, q⟩ := q1
 subst e
 cases r1 with
 | cons r rr =>
  cases rr with
  | cons r' rr =>
   cases rr
   cases r
   cases r'
   obtain ⟨its1, rv1, p1, hz1⟩ := I1.tuple hq1
   obtain ⟨its2, rv2, p2, hz2⟩ := I1.tuple hq2
   have a1 : l1 < s1.heap.objs.size := by obtain ⟨_, e, _⟩ := p1; exact Heap.lt_size e
   have a2 : l2 < s1.heap.objs.size := by obtain ⟨_, e, _⟩ := p2; exact Heap.lt_size e
   refine call_zipT p1 p2 fun h' hz hTI hTO hi1 hi2 hk => wpAny_pyIter_zip (s := { s1 with heap := h' }) hz ?_
   refine ⟨_, [s1.heap.objs.size + 4, s1.heap.objs.size + 2, s1.heap.objs.size + 3, s1.heap.objs.size, s1.heap.objs.size + 1], _, _, H1, rfl, I1.kept (t' := s1.toks) hk, turn_zipT (zipApart_new a1 a2), ⟨hz, hTI, ⟨_, _, hTO⟩, hi1, hi2⟩, fun c hc => ?_, q⟩
   simp only [List.mem_cons, List.not_mem_nil, or_false] at hc
   have hge : s1.heap.objs.size <= c := by
    have : s1.heap.objs.size + 0 = s1.heap.objs.size := rfl
    rcases hc with rfl | rfl | rfl | rfl | rfl
    ·exact Nat.le_add_right _ _
    ·exact Nat.le_add_right _ _
    ·exact Nat.le_add_right _ _
    ·exact Nat.le_refl _
    ·exact Nat.le_add_right _ _
   exact I1.fpOk hge (I1.hok.fresh hge)
theorem for_of2 {J : It} {n : Nat} {Y : Nat -> Hp -> V -> Hp -> Prop} {P : Hp -> Prop} {g : TG} {tb : TS} {D : Ends} {σ : St} {H : Hp} (hgo : ∀ i H, P H -> i < n -> J.go i H) (hy : ∀ i H x H', P H -> J.yld i H x H' -> i < n -> Y i H x H') (hst : ∀ i H, P H -> n <= i -> J.stop i H)
  (Pv : Nat -> St -> Hp -> Prop) (h0 : Pv 0 σ H) (hP : ∀ i σ H, Pv i σ H -> P H)
  (hs : ∀ i x σ H H2, i < n -> Pv i σ H -> Y i H x H2 -> g x σ H2 fun σ2 H3 => tb { D with nx := Pv (i + 1), ct := Pv (i + 1), bk := D.nx } σ2 H3) (hd : ∀ σ H, Pv n σ H -> D.nx σ H) :
  ∃ W : Nat -> Nat -> St -> Hp -> Prop, (∃ m, W 0 m σ H) /\ ∀ i m σ H, W i m σ H ->
   (J.stop i H /\ D.nx σ H) \/ (J.go i H /\ ∃ N : St -> Hp -> Prop, (∀ σ' H', N σ' H' -> ∃ m', m' < m /\ W (i + 1) m' σ' H') /\ ∀ x H', J.yld i H x H' -> g x σ H' fun σ2 H2 => tb { D with nx := N, ct := N, bk := D.nx } σ2 H2) := by
 refine ⟨fun i m σ H => m = n - i /\ i <= n /\ Pv i σ H, ⟨n, by simp, Nat.zero_le _, h0⟩, ?_⟩
 rintro i m σ H ⟨rfl, hi, p⟩
 have hp := hP i σ H p
 by_cases hlt : i < n
 ·exact .inr ⟨hgo i H hp hlt, fun σ2 H2 => Pv (i + 1) σ2 H2, fun σ2 H2 q => ⟨n - (i + 1), by exact Om.k157 hlt, rfl, hlt, q⟩, fun x H2 y => hs i x σ H H2 hlt p (hy i H x H2 hp y hlt)⟩
 ·have e : i = n := by exact Om.k156 hi hlt
  subst e
  exact .inl ⟨hst _ H hp (Nat.le_refl _), hd σ H p⟩
end L2
namespace L2
open PySem PySem.Spec PyProof.Rows
noncomputable def subs : List Nat -> List (List Nat)
 | [] => [[]]
 | x :: l => subs l ++ (subs l).map (x :: ·)
theorem subs_of {l ns : List Nat} (h : ns.Sublist l) : ns ∈ subs l := by
 induction h with
 | slnil => exact List.mem_singleton.mpr rfl
 | cons a _ ih => exact List.mem_append_left _ ih
 | cons_cons a _ ih => exact List.mem_append_right _ (List.mem_map.mpr ⟨_, ih, rfl⟩)
theorem rise_sub : ∀ (k a : Nat) (ns : List Nat), ns.Pairwise (· < ·) -> (∀ x ∈ ns, a <= x /\ x < a + k) -> ns.Sublist (List.range' a k)
 | 0, a, [], _, _ => List.Sublist.slnil
 | 0, a, x :: ns, _, h => by have := h x (by simp); exact (Om.k155 this).elim
 | k + 1, a, [], _, _ => List.nil_sublist _
 | k + 1, a, x :: ns, hp, h => by
  rw [List.range'_succ]
  have hx := h x (by simp)
  have hp' := List.pairwise_cons.mp hp
  by_cases e : x = a
  ·subst e
   refine List.Sublist.cons_cons _ (rise_sub k _ ns hp'.2 fun y hy => ?_)
   have h1 := hp'.1 y hy
   have h2 := h y (by simp [hy])
   omega
  ·refine List.Sublist.cons _ (rise_sub k _ (x :: ns) hp fun y hy => ?_)
   have h2 := h y hy
   rcases List.mem_cons.mp hy with rfl | hy'
   ·omega
   ·have h1 := hp'.1 y hy'
    omega
noncomputable def tab (led : Bool) (ns : List Nat) : SetTable := { mask := if ns.length < 5 then 7 else 31, place := ns.toArray, dummies := #[], finger := 0, led := led, moves := if ns.length < 5 then 0 else 1, plain := true }
theorem tab_rises (led : Bool) {ns : List Nat} (hp : ns.Pairwise (· < ·)) (hn : ∀ x ∈ ns, x < 8) : (tab led ns).fits ns.length = true /\ ∀ i, i < ns.length -> SetTable.below (tab led ns).place (ns.getD i 0) = i /\ SetTable.below (tab led ns).place (ns.getD i 0 + 1) = i + 1 := by
 have key : ∀ led : Bool, ∀ ns ∈ subs (List.range' 0 8), (tab led ns).fits ns.length = true /\ ∀ i, i < ns.length -> SetTable.below (tab led ns).place (ns.getD i 0) = i /\ SetTable.below (tab led ns).place (ns.getD i 0 + 1) = i + 1 := by decide +kernel
 exact key led ns (subs_of (rise_sub 8 0 ns hp fun x hx => ⟨Nat.zero_le _, by have := hn x hx; assumption⟩))
end L2
namespace L2
open PySem PySem.Spec PyProof.Rows
noncomputable abbrev setObj (es : Array (Int × Value)) (ep : Nat) (t : SetTable) : Obj := { cls := .type "set", dict := none, data := .set es ep t }
noncomputable def SEnt (e : Int × Value) (n : Nat) : Prop := ∃ t, e = ((n : Int), Value.int (n : Int) t)
noncomputable def SetR (h : Heap) (a : Addr) (led : Bool) (ns : List Nat) : Prop := ∃ es ep, h.get? a = some (setObj es ep (tab led ns)) /\ Paired SEnt es.toList ns
theorem sent_mem : ∀ {l : List (Int × Value)} {ns : List Nat}, Paired SEnt l ns -> ∀ e ∈ l, ∃ n ∈ ns, SEnt e n
 | _, _, .nil, e, h => by cases h
 | _, _, .cons hx r, e, h => by
  rcases List.mem_cons.mp h with rfl | h
  ·exact ⟨_, by simp, hx⟩
  ·obtain ⟨n, hn, x⟩ := sent_mem r e h
   exact ⟨n, by simp [hn], x⟩
theorem sent_fst : ∀ {l : List (Int × Value)} {ns : List Nat}, Paired SEnt l ns -> l.map (·.1) = ns.map fun (k : Nat) => (k : Int)
 | _, _, .nil => rfl
 | _, _, .cons ⟨t, e⟩ r => by subst e; rw [List.map_cons, List.map_cons, sent_fst r]
theorem relay_all {t t' : SetTable} {es : Array (Int × Value)} {k : Nat} (h : t.relaid (es.map (·.1)) k = some (t', (List.range es.size).toArray)) (hf : t'.fits es.size = true) : relayAll t es k = (es, t', false) := by
 unfold relayAll
 rw [h]
 dsimp only
 have e : (List.range es.size).toArray.filterMap (es[·]?) = es := by
  apply Array.ext'
  rw [Array.toList_filterMap]
  simp only [List.toList_toArray]
  have : ∀ (m : Nat), m <= es.size -> (List.range m).filterMap (es[·]?) = es.toList.take m := by
   intro m
   induction m with
   | zero => intro _; rfl
   | succ m ih =>
    intro hm
    rw [List.range_succ, List.filterMap_append, ih (by exact Om.f4 ‹_›)]
    have hlt : m < es.size := by exact Om.f5 ‹_›
    rw [List.take_succ]
    simp [hlt]
  rw [this es.size (Nat.le_refl _)]
  exact List.take_of_length_le (Nat.le_of_eq Array.length_toList)
 rw [e]
 have c : coversAll (List.range es.size).toArray es.size = true := by
  unfold coversAll
  exact List.isPerm_iff.mpr (List.Perm.refl _)
 rw [c, hf]
 rfl
section
variable {prog : Program} {w : World} {A : Around} {E : Value -> Shared -> Prop} {s : Shared}
theorem elems_sent {l : List (Int × Value)} {ns : List Nat} (hp : Paired SEnt l ns) (hh : ∀ n ∈ ns, hashInt (n : Int) = (n : Int)) : ElemsOf (intKind prog w) l := fun e he => by
 obtain ⟨n, hn, t, rfl⟩ := sent_mem hp e he
 exact ⟨⟨(n : Int), by simp [intKind, Value.isInt], (hh n hn).symm⟩, rfl⟩
end
end L2
namespace L2
open PySem PySem.Spec PyProof.Rows
theorem SetR.at {h h' : Heap} {a : Addr} {led : Bool} {ns : List Nat} (x : SetR h a led ns) (e : ∀ o, h.get? a = some o -> h'.get? a = some o) : SetR h' a led ns :=
 let ⟨es, ep, ho, hp⟩ := x; ⟨es, ep, e _ ho, hp⟩
section
variable {prog : Program} {w : World} {A : Around} {R : Result -> Shared -> Prop} {I : Addr} {fp wr : List Addr} {G : Array GenState -> Array GenState -> Prop} {P : Nat -> Value -> Prop} {St : Nat -> Shared -> Prop}
theorem take_succ_rise {ns : List Nat} {i : Nat} (hi : i < ns.length) : ns.take (i + 1) = ns.take i ++ [ns[i]] := by
 rw [List.take_succ, List.getElem?_eq_getElem hi]; rfl
end
noncomputable def byText (w : World) : Bool := w.params.followText "set-order"
section
variable {prog : Program} {w : World} {A : Around} {E : Value -> Shared -> Prop} {s : Shared}
theorem set_new (a : Value) {Q : Value -> Shared -> Prop} (h : Q (.ref s.heap.objs.size) { s with heap := s.heap.push (setObj #[] 0 (tab (!byText w) [])) }) :
  codeAny (model prog w) A (.call (.builtin "set.__new__") ⟨[.type "set", a], []⟩) (wants Q E) s := by
 refine codeAny_of_tree (wpAny_bind (wpAny_of_eq (PySem.F.newCall_set_1 a) (wpAny_pure ⟨plainId_quiet PySem.F.plain_set_new _, codeAny_builtin PySem.F.entry_set_new ?_⟩)))
 rw [Around.under_plainId PySem.F.plain_set_new _]
 unfold Builtin.«set.__new__» Builtin.Frozenset.newClass
 have hsub := sub_set_self
 obtain ⟨hp, g, d, tk, os⟩ := s
 dsimp only
 wp_walk
 refine wpAny_askSetting (wpAny_pure ?_)
 dsimp only
 simp only [newObj]
 exact wpAny_bind (wpAny_alloc (wpAny_pure (wpAny_pure h)))
end
end L2
namespace L2
open PySem PySem.Spec PyProof.Rows
section
variable {prog : Program} {w : World} {A : Around} {E : Value -> Shared -> Prop} {s : Shared}
theorem set_made {a : Value} {Q Q1 : Value -> Shared -> Prop} (hnew : codeAny (model prog w) A.in1 (.call (.builtin "set.__new__") ⟨[.type "set", a], []⟩) (wants Q1 E) s)
  (hgo : ∀ obj s1, Q1 obj s1 -> s1.TypeIs obj "set" /\ wpAny (model prog w) A.in1.in1 (Builtin.«set.__init__» ⟨[obj, a], []⟩)
    (fun fin s' => match fin with | .done f => wants (fun r s2 => r = .none /\ Q obj s2) E (.ok f) s' | .again c => c.quiet = true /\ codeAny (model prog w) A.in1 c (wants (fun r s2 => r = .none /\ Q obj s2) E) s')
    (fun e s' => wants (fun r s2 => r = .none /\ Q obj s2) E (.error e) s') s1) : wpAny (model prog w) A (call (.type "set") [a]) Q E s := by
 have ft := PySem.F.called_set
 obtain ⟨c, tl, hmro⟩ := ft.mro
 have hmade := ft.made
 have hsub := ft.sub
 refine wpAny_call (codeAny_of_tree (wpAny_pure ⟨Code.quiet_builtin _ (by decide +kernel), codeAny_builtin PySem.F.entry_type_call ?_⟩))
 rw [Around.under_plain (weight_type_call_type "set" [a] []) rfl]
 have h1 := ft.notType
 have h2 := ft.canCreate
 have h3 := PySem.F.typeCall_set_1 a
 repeat (any_goals (first | assumption | wp_step))
 refine codeAny_mono hnew fun r1 s1 x1 => ?_
 cases r1 with
 | error e => exact x1
 | ok f1 =>
  cases f1 with
  | ret obj =>
   obtain ⟨hT, hs⟩ := hgo _ _ x1
   have hli := ft.init.lookup
   have hbi := ft.init.bind obj
   repeat (any_goals (first | assumption | wp_step))
   refine codeAny_mono (codeAny_call_builtin ft.init.plain PySem.F.entry_set_init (PySem.check_set_init_1 hT hs)) fun r2 s2 x2 => ?_
   cases r2 with
   | error e => exact x2
   | ok f2 =>
    cases f2 with
    | ret r =>
     obtain ⟨rfl, hq⟩ := x2
     repeat (any_goals (first | assumption | wp_step))
    | _ => exact x2.elim
  | _ => exact x1.elim
end
end L2
namespace L2
open PySem PySem.Spec PyProof.Rows
theorem slot_sit_next : Slot "set_iterator" "__next__" "set_iterator.__next__" := .of (owner := "set_iterator") (n := "__next__") (by rw [typeLookup_type, builtinLookup_eq_fast]; kernel_rfl) (by decide +kernel) (by decide +kernel) (by decide +kernel) (by first | exact .inl (by decide +kernel) | exact .inr (by decide +kernel)) (by rw [isSubtype_type]; kernel_rfl)
theorem slot_sit_iter : Slot "set_iterator" "__iter__" "set_iterator.__iter__" := .of (owner := "set_iterator") (n := "__iter__") (by rw [typeLookup_type, builtinLookup_eq_fast]; kernel_rfl) (by decide +kernel) (by decide +kernel) (by decide +kernel) (by first | exact .inl (by decide +kernel) | exact .inr (by decide +kernel)) (by rw [isSubtype_type]; kernel_rfl)
theorem entry_sit_next : entryFor table "set_iterator.__next__" = some Builtin.«set_iterator.__next__» := entryFor_of_tree (by kernel_rfl)
theorem args_sit_next (a : Value) : argsOk "set_iterator.__next__" ⟨[a], []⟩ := by unfold argsOk; kernel_rfl
theorem args_sit_iter (a : Value) : argsOk "set_iterator.__iter__" ⟨[a], []⟩ := by unfold argsOk; kernel_rfl
theorem entry_set_iter : entryFor table "set.__iter__" = some Builtin.«frozenset.__iter__» := entryFor_alias (id' := "frozenset.__iter__") (by kernel_rfl) rfl (by decide +kernel) (by kernel_rfl)
theorem entry_sit_iter : entryFor table "set_iterator.__iter__" = some Builtin.«dict_keyiterator.__iter__» := entryFor_alias (id' := "dict_keyiterator.__iter__") (by kernel_rfl) rfl (by decide +kernel) (by kernel_rfl)
end L2
namespace L2
open PySem PySem.Spec PyProof.Rows
theorem perm_erase {α : Type} : ∀ (l : List α) (i : Nat) (h : i < l.length), (l[i] :: l.eraseIdx i).Perm l
 | x :: l, 0, _ => by simp
 | x :: l, i + 1, h => by
  have ih := perm_erase l i (by simpa using h)
  rw [List.getElem_cons_succ, List.eraseIdx_cons_succ]
  exact (List.Perm.swap x _ _).trans (List.Perm.cons x ih)
theorem pick_go {α : Type} (next : Nat -> Nat) : ∀ (f k : Nat) (left : List α) (out : Array α), left.length <= f -> ((pickOrder.go next f k left out).toList).Perm (out.toList ++ left)
 | 0, k, [], out, _ => by unfold pickOrder.go; rw [List.append_nil]
 | 0, k, x :: l, out, h => by simp at h
 | f + 1, k, [], out, _ => by
  unfold pickOrder.go
  simp
 | f + 1, k, x :: l, out, h => by
  unfold pickOrder.go
  have hlt : next k % (x :: l).length < (x :: l).length := Nat.mod_lt _ (by simp)
  rw [List.getElem?_eq_getElem hlt]
  dsimp only
  refine (pick_go next f (k + 1) _ _ ?_).trans ?_
  ·rw [List.length_eraseIdx_of_lt hlt]
   simp only [List.length_cons] at h ⊢
   exact Om.k154 h
  ·rw [Array.toList_push, List.append_assoc]
   exact List.Perm.append_left _ (perm_erase _ _ hlt)
theorem pick_perm {α : Type} (next : Nat -> Nat) (xs : Array α) : (pickOrder next xs).toList.Perm xs.toList := by
 have h := pick_go next xs.size 0 xs.toList #[] (by simp)
 rw [show (#[] : Array α).toList ++ xs.toList = xs.toList from rfl] at h
 exact h
noncomputable def walkOf (w : World) (a : Addr) (es : Array (Int × Value)) (ep : Nat) : Array (Int × Value) := if byText w then pickOrder (w.params.setOrder a ep) es else es
theorem walk_perm (w : World) (a : Addr) (es : Array (Int × Value)) (ep : Nat) : (walkOf w a es ep).toList.Perm es.toList := by
 unfold walkOf
 split
 ·exact pick_perm _ _
 ·exact List.Perm.refl _
theorem walk_size (w : World) (a : Addr) (es : Array (Int × Value)) (ep : Nat) : (walkOf w a es ep).size = es.size := by
 rw [<- Array.length_toList, (walk_perm w a es ep).length_eq, Array.length_toList]
noncomputable def slotAt (w : World) (ns : List Nat) : Nat -> Nat
 | 0 => 0
 | i + 1 => if byText w then 0 else ns.getD i 0 + 1
noncomputable def SitObj (d : Addr) (sl i n ep : Nat) : Obj := { cls := .type "set_iterator", data := .fields #[.int sl 0, .int i 0, .ref d, .int n 0, .int ep 0] }
theorem tab_zero (led : Bool) {ns : List Nat} (hp : ns.Pairwise (· < ·)) (hn : ∀ x ∈ ns, x < 8) : SetTable.below (tab led ns).place 0 = 0 := by
 have key : ∀ led : Bool, ∀ ns ∈ subs (List.range' 0 8), SetTable.below (tab led ns).place 0 = 0 := by decide +kernel
 exact key led ns (subs_of (rise_sub 8 0 ns hp fun x hx => ⟨Nat.zero_le _, by have := hn x hx; assumption⟩))
theorem slot_below (w : World) (led : Bool) {ns : List Nat} (hp : ns.Pairwise (· < ·)) (hn : ∀ x ∈ ns, x < 8) (hb : byText w = false) : ∀ i, i <= ns.length -> SetTable.below (tab led ns).place (slotAt w ns i) = i
 | 0, _ => tab_zero led hp hn
 | i + 1, h => by
  unfold slotAt
  rw [hb]
  exact ((tab_rises led hp hn).2 i h).2
section
variable {prog : Program} {w : World} {A : Around} {E : Value -> Shared -> Prop} {s : Shared} {d : Addr} {es : Array (Int × Value)} {ep : Nat} {ns : List Nat}
theorem set_next {i : Nat} {Q : Option (Value × Nat) -> Shared -> Prop} (ho : s.heap.get? d = some (setObj es ep (tab (!byText w) ns))) (hp : Paired SEnt es.toList ns) (hr : ns.Pairwise (· < ·)) (h8 : ∀ x ∈ ns, x < 8) (hi : i <= ns.length)
  (h : Q (((walkOf w d es ep)[i]?).map fun e => (e.2, slotAt w ns (i + 1))) s) : wpAny (model prog w) A (setNext d (slotAt w ns i) i ep) Q E s := by
 have hz : es.size = ns.length := by rw [<- Array.length_toList, hp.length]
 have hfit : (tab (!byText w) ns).fits es.size = true := by rw [hz]; exact (tab_rises _ hr h8).1
 unfold setNext setsByText
 refine wpAny_bind (wpAny_setState_of ho rfl hfit (wpAny_bind (wpAny_bind (wpAny_askSetting (wpAny_pure ?_)))))
 dsimp only
 have ee : (model prog w).w.params.followText "set-order" = byText w := rfl
 rw [ee]
 cases hb : byText w with
 | true =>
  simp only [↓reduceIte, bne_self_eq_false, Bool.false_eq_true]
  unfold setWalk setsByText
  refine wpAny_bind (wpAny_bind (wpAny_setState_of ho rfl hfit (wpAny_bind (wpAny_bind (wpAny_askSetting (wpAny_pure ?_))))))
  rw [ee, hb]
  simp only [↓reduceIte]
  refine wpAny_bind (wpAny_askSetting (wpAny_pure (wpAny_pure ?_)))
  have e1 : slotAt w ns i = slotAt w ns (i + 1) := by
   cases i <;> simp [slotAt, hb]
  rw [e1]
  unfold walkOf at h
  rw [hb] at h
  exact h
 | false =>
  simp only [Bool.false_eq_true, ↓reduceIte]
  refine wpAny_ite_split (fun hx => absurd hx (show ¬ _ from Bool.false_ne_true)) (fun _ => wpAny_bind ?_)
  show wpAny _ _ (if (!true && !es.isEmpty) = true then unsupported "set:maker-not-led" else pure ()) _ _ _
  rw [if_neg (by simp)]
  refine wpAny_pure (wpAny_pure ?_)
  rw [show tab (!false) ns = tab true ns from rfl, slot_below w true hr h8 hb i hi]
  unfold walkOf at h
  rw [hb] at h
  rw [if_neg Bool.false_ne_true] at h
  rcases Nat.lt_or_ge i ns.length with hlt | hge
  ·have h1 : i < es.size := by exact Om.a1 ‹_› ‹_›
   have e2 : (tab true ns).place[i]? = some ns[i] := by
    show ns.toArray[i]? = _
    rw [List.getElem?_toArray, List.getElem?_eq_getElem hlt]
   rw [e2]
   rw [Array.getElem?_eq_getElem h1] at h ⊢
   have e3 : slotAt w ns (i + 1) = ns[i] + 1 := by
    show (if byText w = true then 0 else ns.getD i 0 + 1) = _
    rw [hb, if_neg Bool.false_ne_true, List.getD_eq_getElem?_getD, List.getElem?_eq_getElem hlt]
    rfl
   rw [e3] at h
   exact h
  ·rw [Array.getElem?_eq_none (by omega)] at h ⊢
   exact h
theorem set_iter {Q : Value -> Shared -> Prop} (ho : s.heap.get? d = some (setObj es ep (tab (!byText w) ns))) (hp : Paired SEnt es.toList ns) (hr : ns.Pairwise (· < ·)) (h8 : ∀ x ∈ ns, x < 8)
  (h : Q (.ref s.heap.objs.size) { s with heap := s.heap.push (SitObj d 0 0 es.size ep) }) : wpAny (model prog w) A (pyIter (.ref d)) Q E s := by
 have hz : es.size = ns.length := by rw [<- Array.length_toList, hp.length]
 have hfit : (tab (!byText w) ns).fits es.size = true := by rw [hz]; exact (tab_rises _ hr h8).1
 have hT : s.TypeIs (.ref d) "set" := ⟨_, ho, rfl⟩
 refine wpAny_pyIter_slot hT PySem.F.slot_set_iter (wpAny_call_entry PySem.F.slot_set_iter hT entry_set_iter ?_ (PySem.F.args_set_iter_1 _))
 show wpAny _ _ (Builtin.Frozenset.sizeOf d >>= _) _ _ s
 unfold Builtin.Frozenset.sizeOf setEntries
 refine wpAny_bind (wpAny_bind (wpAny_bind (wpAny_setState_of ho rfl hfit (wpAny_pure (wpAny_pure ?_)))))
 refine wpAny_bind ?_
 unfold setDrawn setsByText
 refine wpAny_bind (wpAny_setState_of ho rfl hfit (wpAny_bind (wpAny_bind (wpAny_askSetting (wpAny_pure (wpAny_pure ?_))))))
 refine wpAny_ite_split (fun hx => absurd (Bool.and_eq_true_iff.mp hx).2 (show ¬ _ from Bool.false_ne_true)) (fun _ => wpAny_bind (wpAny_pure ?_))
 unfold setEpoch
 refine wpAny_bind (wpAny_bind (wpAny_setState_of ho rfl hfit (wpAny_pure ?_)))
 refine wpAny_bind (wpAny_newObj_type (wpAny_pure ⟨_, rfl, "set_iterator", _, ⟨_, Heap.get?_push_size _ rfl, rfl⟩, slot_sit_next.lookup, ?_⟩))
 exact h
theorem set_iter_self {sl i n : Nat} {it : Addr} {Q : Value -> Shared -> Prop} (hit : s.heap.get? it = some (SitObj d sl i n ep)) (h : Q (.ref it) s) : wpAny (model prog w) A (pyIter (.ref it)) Q E s := by
 have hT : s.TypeIs (.ref it) "set_iterator" := ⟨_, hit, rfl⟩
 refine wpAny_pyIter_slot hT slot_sit_iter (wpAny_call_entry slot_sit_iter hT entry_sit_iter ?_ (args_sit_iter _))
 show wpAny _ _ (ret (.ref it)) _ _ s
 exact wpAny_pure ⟨_, rfl, "set_iterator", _, hT, slot_sit_next.lookup, h⟩
theorem set_step {i : Nat} {it : Addr} {Q : Option Value -> Shared -> Prop} (hh : A.handled = none) (ho : s.heap.get? d = some (setObj es ep (tab (!byText w) ns))) (hp : Paired SEnt es.toList ns) (hr : ns.Pairwise (· < ·)) (h8 : ∀ x ∈ ns, x < 8) (hi : i <= ns.length)
  (hit : s.heap.get? it = some (SitObj d (slotAt w ns i) i es.size ep))
  (h1 : ∀ e h', (walkOf w d es ep)[i]? = some e -> h'.get? it = some (SitObj d (slotAt w ns (i + 1)) (i + 1) es.size ep) -> Heap.SameBut it s.heap h' -> Q (some e.2) { s with heap := h' })
  (h2 : ∀ h', (walkOf w d es ep)[i]? = none -> Heap.ExtBut it s.heap h' -> Q none { s with heap := h' }) : wpAny (model prog w) A (pyNext (.ref it)) Q E s := by
 have hz : es.size = ns.length := by rw [<- Array.length_toList, hp.length]
 have hfit : (tab (!byText w) ns).fits es.size = true := by rw [hz]; exact (tab_rises _ hr h8).1
 have hT : s.TypeIs (.ref it) "set_iterator" := ⟨_, hit, rfl⟩
 unfold pyNext
 refine wpAny_bind (wpAny_attempt (wpAny_callSpecial?_slot (name := Str.ofString "__next__") hT slot_sit_next (wpAny_call_entry slot_sit_next hT entry_sit_next ?_ (args_sit_next _))))
 refine wpAny_bind (wpAny_pure (wpAny_bind (wpAny_fieldsOf hit rfl ?_)))
 dsimp only
 unfold setEntries
 refine wpAny_bind (wpAny_bind (wpAny_setState_of ho rfl hfit (wpAny_pure ?_)))
 rw [if_neg (by simp)]
 refine wpAny_bind ?_
 simp only [Int.toNat_natCast]
 refine set_next ho hp hr h8 hi ?_
 cases hw : (walkOf w d es ep)[i]? with
 | some e =>
  simp only [Option.map_some]
  refine wpAny_bind (wpAny_setField hit rfl (by simp) ?_)
  have g1 := Heap.get?_update_self (Obj.mapFields fun xs => xs.setIfInBounds 0 (rawInt (slotAt w ns (i + 1) : Int))) hit rfl
  refine wpAny_bind (wpAny_setField g1 rfl (by simp) ?_)
  have g2 := Heap.get?_update_self (Obj.mapFields fun xs => xs.setIfInBounds 1 (rawInt ((i : Int) + 1))) g1 rfl
  refine wpAny_pure ⟨_, rfl, wpAny_pure (h1 e _ hw ?_ ((Heap.SameBut.update ..).trans (Heap.SameBut.update ..)))⟩
  exact g2
 | none =>
  simp only [Option.map_none]
  refine wpAny_bind (wpAny_setField hit rfl (by simp) ?_)
  refine wpAny_bind ?_
  simp only [newExc, newTuple]
  refine wpAny_bind (wpAny_newObj_type (wpAny_bind (m := firstArgMember _ _) (wpAny_of_eq (a := Value.none) (by first | rfl | (simp only [firstArgMember]; rfl)) ?_)) (by size_fits))
  refine wpAny_newObj_type ?_ (by size_fits)
  simp only [raiseNew]
  refine wpAny_bind (wpAny_handled ?_)
  rw [show A.in1.handled = none from hh]
  refine wpAny_bind (wpAny_pure (wpAny_throw (wpAny_bind ?_)))
  refine wpAny_isInstance (T := "StopIteration") (b := true) ⟨_, Heap.get?_push_size _ rfl, rfl⟩ isSubtype_stop ?_
  exact wpAny_pure (h2 _ hw (((Heap.SameBut.update ..).extBut.push _).push _))
theorem walks_set (hh : A.handled = none) (I : Addr) (hne : d ≠ I) (hp : Paired SEnt es.toList ns) (hr : ns.Pairwise (· < ·)) (h8 : ∀ x ∈ ns, x < 8) :
  Walks prog w A I [I, d] [I] es.size (fun i v => ((walkOf w d es ep)[i]?).map (·.2) = some v) (fun i h => h.get? I = some (SitObj d (slotAt w ns i) i es.size ep) /\ h.get? d = some (setObj es ep (tab (!byText w) ns))) where
 sub := fun b hb => by simp at hb; simp [hb]
 frame := fun _ _ _ st hk => ⟨hk I (by simp) _ st.1, hk d (by simp) _ st.2⟩
 item := fun i s Q E hi st hQ => by
  have hz : es.size = ns.length := by rw [<- Array.length_toList, hp.length]
  refine set_step hh st.2 hp hr h8 (by exact Om.k153 hi hz) st.1 (fun e h' he g sb => ?_) fun h' he _ => ?_
  ·refine hQ _ h' s.toks ?_ ⟨g, (sb.2 d hne).trans st.2⟩ fun b o hb x => (sb.2 b fun y => hb (by simp [y])).trans x
   rw [he]; rfl
  ·rw [Array.getElem?_eq_none_iff, walk_size] at he
   exact (Om.k152 hi hz he).elim
 done := fun s Q E st hQ => by
  have hz : es.size = ns.length := by rw [<- Array.length_toList, hp.length]
  refine set_step hh st.2 hp hr h8 (Nat.le_of_eq hz) st.1 (fun e h' he _ _ => ?_) fun h' _ x => hQ h' s.toks fun b o hb y => x b o (fun z => hb (by simp [z])) y
  have : (walkOf w d es ep)[es.size]? = none := by rw [Array.getElem?_eq_none_iff, walk_size]; exact Nat.le_refl _
  rw [this] at he
  cases he
 self := fun _ _ _ _ st hQ => set_iter_self st.1 hQ
theorem set_hint {r : Addr} {Q : Bool -> Shared -> Prop} (hT : s.TypeIs (.ref r) "set") (h : Q false s) : wpAny (model prog w) A (Builtin.List.listLengthHint (.ref r)) Q E s := by
 unfold Builtin.List.listLengthHint
 refine wpAny_bind (wpAny_specialOf hT PySem.F.slot_set_len.lookup ?_)
 generalize hid : ("set.__len__" : String) = id0
 wp_delta
 rw [show splitId id0 = some ("set", "__len__") from by subst hid; decide +kernel]
 subst hid
 refine wpAny_bind (wpAny_isInstance (T := "set") (b := true) hT (by rw [isSubtype_type]; kernel_rfl) ?_)
 refine wpAny_ite_split (fun z => absurd z (by decide)) (fun _ => wpAny_ite_split (fun _ => ?_) (fun z => absurd (by decide +kernel) z))
 exact wpAny_bind (wpAny_typeOf hT (wpAny_pure h))
theorem src_set (hp : Paired SEnt es.toList ns) (hr : ns.Pairwise (· < ·)) (h8 : ∀ x ∈ ns, x < 8) :
  PySem.W.KdlSrc prog w "set" d d es.size (fun i v => ((walkOf w d es ep)[i]?).map (·.2) = some v) (fun h => h.get? d = some (setObj es ep (tab (!byText w) ns))) where
 type := fun _ g => ⟨_, g, rfl⟩
 there := fun _ g => ⟨Heap.lt_size g, Heap.lt_size g⟩
 keep := fun _ _ g hk => hk d (.inl rfl) _ g
 notList := by decide
 notTuple := by decide
 hint := fun _ _ _ _ g hq => set_hint ⟨_, g, rfl⟩ hq
 iter := fun _ _ hh g => ⟨_, _, (fun _ _ hq => set_iter g hp hr h8 hq), walks_set hh _ (Nat.ne_of_lt (Heap.lt_size g)) hp hr h8, ⟨Heap.get?_push_size _ rfl, Heap.get?_push_of_some _ g⟩⟩
end
end L2
namespace L2
open PySem PySem.Spec PyProof.Rows
theorem rise_uniq : ∀ {a b : List Int}, a.Perm b -> a.Pairwise (· <= ·) -> b.Pairwise (· <= ·) -> a = b
 | [], b, p, _, _ => (List.Perm.nil_eq p)
 | x :: a, [], p, _, _ => by have := p.length_eq; cases this
 | x :: a, y :: b, p, ha, hb => by
  have hxy : x = y := by
   have h1 : y ∈ x :: a := p.mem_iff.mpr List.mem_cons_self
   have h2 : x ∈ y :: b := p.mem_iff.mp List.mem_cons_self
   have ha' := List.pairwise_cons.mp ha
   have hb' := List.pairwise_cons.mp hb
   rcases List.mem_cons.mp h1 with e | h1
   ·exact e.symm
   ·rcases List.mem_cons.mp h2 with e | h2
    ·exact e
    ·have := ha'.1 y h1
     have := hb'.1 x h2
     omega
  subst hxy
  rw [rise_uniq (List.Perm.cons_inv p) (List.pairwise_cons.mp ha).2 (List.pairwise_cons.mp hb).2]
noncomputable def zs (ns : List Nat) : List Int := ns.map fun (k : Nat) => (k : Int)
theorem sent_ints : ∀ {l : List (Int × Value)} {ns : List Nat}, Paired SEnt l ns -> IntsAre (l.map (·.2)) (zs ns)
 | _, _, .nil => .nil
 | _, _, .cons ⟨t, e⟩ r => by subst e; exact IntsAre.cons _ t (sent_ints r)
theorem ints_perm {vs us : List Value} (p : vs.Perm us) : ∀ {ns : List Int}, IntsAre us ns -> ∃ ms, IntsAre vs ms /\ ms.Perm ns := by
 induction p with
 | nil => intro ns h; exact ⟨_, h, .refl _⟩
 | cons x _ ih =>
  intro ns h
  cases h with
  | cons n t r =>
   obtain ⟨ms, a, b⟩ := ih r
   exact ⟨_, .cons n t a, .cons _ b⟩
 | swap x y l =>
  intro ns h
  cases h with
  | cons n t r =>
   cases r with
   | cons m u r => exact ⟨_, .cons m u (.cons n t r), .swap _ _ _⟩
 | trans _ _ i1 i2 =>
  intro ns h
  obtain ⟨ms, a, b⟩ := i2 h
  obtain ⟨ks, c, d⟩ := i1 a
  exact ⟨ks, c, d.trans b⟩
theorem items_map {P : Array Value} {xs : List (Int × Value)} {acc : Array Value} {n : Nat} (h : ItemsOf (fun i v => (xs[i]?).map (·.2) = some v) acc n) (hn : n = xs.length) : acc.toList = xs.map (·.2) := by
 refine List.ext_getElem? fun i => ?_
 rw [List.getElem?_map]
 rcases Nat.lt_or_ge i acc.size with hi | hi
 ·rw [h.2 i acc[i] (by rw [Array.getElem?_eq_getElem hi])]
  rw [Array.getElem?_toList, Array.getElem?_eq_getElem hi]
 ·rw [List.getElem?_eq_none (by simpa using hi), List.getElem?_eq_none (by rw [<- hn, <- h.1]; exact hi)]
  rfl
section
variable {prog : Program} {w : World} {A : Around} {E : Value -> Shared -> Prop} {s : Shared} {d : Addr} {ns : List Nat}
theorem sorted_set {Q : Value -> Shared -> Prop} (hh : A.handled = none) (hS : SetR s.heap d (!byText w) ns) (hr : ns.Pairwise (· < ·)) (h8 : ∀ x ∈ ns, x < 8)
  (h : ∀ (l : Addr) (h1 h' : Heap) (tk e : Nat) (out : Array Value), IntsAre out.toList (zs ns) -> (∀ b o, s.heap.get? b = some o -> h1.get? b = some o) -> h1.objs.size <= l -> (∀ b o, h1.get? b = some o -> h'.get? b = some o) -> h'.get? l = some (seqObj "list" out e) -> Q (.ref l) { s with heap := h', toks := tk }) :
  wpAny (model prog w) A (call (.builtin "sorted") [.ref d]) Q E s := by
 obtain ⟨es, ep, ho, hp⟩ := hS
 have hz : es.size = ns.length := by rw [<- Array.length_toList, hp.length]
 have h9 : ns.length <= 8 := by
  have := (rise_sub 8 0 _ hr fun x hx => ⟨Nat.zero_le _, by have := h8 x hx; assumption⟩).length_le
  rwa [List.length_range'] at this
 refine Calls.call_function_entry kind_sorted plain_sorted entry_sorted (args_sorted1 _) ?_
 unfold Builtin.«sorted»
 refine wpAny_bind (m := checkCount "sorted" 1 1 _) (wpAny_pure (wpAny_bind ?_))
 refine PySem.W.kdu_collect (A := A.in1) (src_set hp hr h8) hh ho (by rw [sizeLine_eq]; exact Om.b4 ‹_› ‹_› rfl) fun h1 tk acc k1 hacc => ?_
 have ea : acc.toList = (walkOf w d es ep).toList.map (·.2) := items_map (P := #[]) (n := es.size) ⟨hacc.1, fun i v x => by show ((walkOf w d es ep).toList[i]?).map (·.2) = some v; rw [Array.getElem?_toList]; exact hacc.2 i v x⟩ (by rw [Array.length_toList, walk_size])
 obtain ⟨ms, i1, i2⟩ := ints_perm ((walk_perm w d es ep).map (·.2)) (sent_ints hp)
 rw [<- ea] at i1
 have hl : acc.toList.length = ns.length := by rw [Array.length_toList, hacc.1, hz]
 refine wpAny_bind (wpAny_newList ?_ (by rw [hl, sizeLine_eq]; exact Om.b1 ‹_› rfl))
 have g : (h1.push (seqObj "list" acc.toList.toArray 0)).get? h1.objs.size = some (seqObj "list" acc.toList.toArray 0) := Heap.get?_push_size _ rfl
 refine wpAny_bind (wpAny_holding (wpAny_call_entry slot_list_sort ⟨_, g, rfl⟩ entry_list_sort (list_sort_tree (vs := acc.toList) g i1 (by exact Om.k151 hz h9 hl) fun out ns' a1 a2 a3 => ⟨_, rfl, ?_⟩) (args_list_sort _)))
 have e1 : ns' = zs ns := rise_uniq (a2.trans i2) a3 (by
  unfold zs
  rw [List.pairwise_map]
  exact hr.imp fun hab => by exact Om.k44 hab)
 subst e1
 obtain ⟨e, he⟩ := sortedHeap_at (out := out) g
 refine wpAny_pure ⟨_, rfl, h h1.objs.size h1 _ tk e out a1 k1 (Nat.le_refl _) (fun b o x => ?_) he⟩
 have hb := Heap.lt_size x
 rw [sortedHeap_old (Nat.ne_of_lt hb) (by rw [size_push']; exact Nat.lt_succ_of_lt hb)]
 exact Heap.get?_push_of_some _ x
end
noncomputable def setX (w : World) (l : Addr) (ns : List Nat) : HO := .ext fun h => SetR h l (!byText w) ns
noncomputable def Small8 (ns : List Nat) : Prop := ns.Pairwise (· < ·) /\ ∀ x ∈ ns, x < 8
noncomputable def rSortedX (w : World) : List V -> Hp -> VK -> Prop := fun xs H Q => ∃ (p : Addr) (ns : List Nat), xs = [.ref p] /\ H p = some (setX w p ns) /\ Small8 ns /\ ∀ l, H l = none -> Q (.ref l) (upd H l (.lst ((zs ns).map V.int)))
theorem call_sortedX {X : Cx} (w : World) (hc : X.calm = true) (hw : X.w = w := by rfl) : CallR X (.builtin "sorted") (rSortedX w) := by
 subst hw
 intro pins s σ H xs us Q I r h
 obtain ⟨p, ns, rfl, hq, ⟨hr, h8⟩, q⟩ := h
 obtain ⟨u, rfl, rx⟩ := vals1 r
 cases rx
 have hx : ObjOk X.prog X.w H s.heap p (setX X.w p ns) := I.hok p _ hq
 refine sorted_set (I.ok.hd hc) hx.1 hr h8 fun l h1 h' tk e out ia k1 hl k2 he => ?_
 have I1 : Inv X pins σ H { s with heap := h1 } := I.kept (t' := s.toks) k1
 have hz : (zs ns).length <= sizeLine := by
  have := (rise_sub 8 0 _ hr fun x hx => ⟨Nat.zero_le _, by have := h8 x hx; assumption⟩).length_le
  rw [List.length_range'] at this
  rw [sizeLine_eq]
  unfold zs
  rw [List.length_map]
  exact Om.b1 ‹_› rfl
 refine ⟨.ref l, _, I1.laid (t' := tk) (o := .lst ((zs ns).map V.int)) k2 hl ?_, rfl, q _ (I1.hok.fresh hl)⟩
 exact ⟨by rw [List.length_map]; exact hz, out.toList, e, vals_ints ia, by simpa using he⟩
end L2
namespace L2
open PySem PySem.Spec PyProof.Rows
section
variable {prog : Program} {w : World} {A : Around} {E : Value -> Shared -> Prop} {s : Shared}
theorem sorted_tup {d : Addr} {vs : List Value} {ns : List Int} {Q : Value -> Shared -> Prop} (ht : s.heap.IsTuple d vs.toArray) (hi : IntsAre vs ns) (h64 : vs.length < 64)
  (h : ∀ (l : Addr) (h1 h' : Heap) (e : Nat) (out : Array Value) (ns' : List Int), IntsAre out.toList ns' -> ns'.Perm ns -> ns'.Pairwise (· <= ·) -> (∀ b o, s.heap.get? b = some o -> h1.get? b = some o) -> h1.objs.size <= l -> (∀ b o, h1.get? b = some o -> h'.get? b = some o) -> h'.get? l = some (seqObj "list" out e) -> Q (.ref l) { s with heap := h' }) :
  wpAny (model prog w) A (call (.builtin "sorted") [.ref d]) Q E s := by
 obtain ⟨o, ho, hc, n, hd⟩ := id ht
 refine Calls.call_function_entry kind_sorted plain_sorted entry_sorted (args_sorted1 _) ?_
 unfold Builtin.«sorted»
 refine wpAny_bind (m := checkCount "sorted" 1 1 _) (wpAny_pure (wpAny_bind ?_))
 have hz : vs.toArray.size <= sizeLine := by rw [List.size_toArray, sizeLine_eq]; exact Om.k150 h64
 refine wpAny_collect_seq (hsz := hz) d (.inr rfl) ho hc hd fun h1 k1 => ?_
 rw [List.toList_toArray]
 refine wpAny_bind (wpAny_newList ?_ (by rw [sizeLine_eq]; exact Om.k150 h64))
 have g : (h1.push (seqObj "list" vs.toArray 0)).get? h1.objs.size = some (seqObj "list" vs.toArray 0) := Heap.get?_push_size _ rfl
 refine wpAny_bind (wpAny_holding (wpAny_call_entry slot_list_sort ⟨_, g, rfl⟩ entry_list_sort (list_sort_tree (vs := vs) g hi h64 fun out ns' a1 a2 a3 => ⟨_, rfl, ?_⟩) (args_list_sort _)))
 obtain ⟨e, he⟩ := sortedHeap_at (out := out) g
 refine wpAny_pure ⟨_, rfl, h h1.objs.size h1 _ e out ns' a1 a2 a3 k1 (Nat.le_refl _) (fun b o x => ?_) he⟩
 have hb := Heap.lt_size x
 rw [sortedHeap_old (Nat.ne_of_lt hb) (by rw [size_push']; exact Nat.lt_succ_of_lt hb)]
 exact Heap.get?_push_of_some _ x
end
noncomputable def rSortedT (K : PySem.W.Frag) : List V -> Hp -> VK -> Prop := fun xs H Q => ∃ (p : Addr) (ns : List Int), xs = [.ref p] /\ SqT K H p (ns.map V.int) /\ ns.length < 64 /\ ∀ (l : Addr) (ns' : List Int), H l = none -> ns'.Perm ns -> ns'.Pairwise (· <= ·) -> Q (.ref l) (upd H l (.lst (ns'.map V.int)))
theorem call_sortedT {X : Cx} (K : PySem.W.Frag) (hK : X.K = K := by rfl) : CallR X (.builtin "sorted") (rSortedT K) := by
 subst hK
 intro pins s σ H xs us Q I r h
 obtain ⟨p, ns, rfl, hq, hl, q⟩ := h
 obtain ⟨u, rfl, rx⟩ := vals1 r
 cases rx
 obtain ⟨its, rv, ht, hz⟩ := I.tuple hq
 have hlen : its.length = ns.length := by rw [<- rv.length, List.length_map]
 refine sorted_tup (vs := its) (ns := ns) ht (intsAre_of rv) (by rw [hlen]; exact hl) fun l h1 h' e out ns' a1 a2 a3 k1 hl1 k2 he => ?_
 have I1 : Inv X pins σ H { s with heap := h1 } := I.kept (t' := s.toks) k1
 refine ⟨.ref l, _, I1.laid (t' := s.toks) (o := .lst (ns'.map V.int)) k2 hl1 ?_, rfl, q _ ns' (I1.hok.fresh hl1) a2 a3⟩
 exact ⟨Nat.le_trans (m := 64) (by rw [List.length_map, a2.length_eq]; exact Om.d1 ‹_›) (by decide), out.toList, e, vals_ints a1, by simpa using he⟩
end L2
namespace L2
open PySem PySem.Spec PyProof.Rows
open AutoSeq1 (wpAny_loadPart')
section
variable (l : Addr) (its : List Value) (n : Nat) (dd : Option Addr) (sl : Array (Option Value)) (t : Tok)
end
section
variable {prog : Program} {w : World} {A : Around} {E : Value -> Shared -> Prop} {s : Shared}
open HT in
theorem getItem_tuple_whole {t sl : Addr} {items : Array Value} {vl vu : Value} {lo hi : Option Int} {Q : Value -> Shared -> Prop} (ht : IsTup s.heap t items) (hs : s.heap.IsSliceOf sl vl vu .none) (pl : IsPart vl lo) (pu : IsPart vu hi)
  (hw : sIx items.size 0 lo = 0 /\ sIx items.size items.size hi = items.size) (h : Q (.ref t) s) : wpAny (model prog w) A (getItem (.ref t) (.ref sl)) Q E s := by
 obtain ⟨os, hos, hcs, hds⟩ := id hs
 have hTs : s.TypeIs (.ref sl) "slice" := ⟨os, hos, hcs⟩
 unfold getItem
 try with_reducible refine wpAny_holding ?_
 first | refine wpAny_bind (wpAny_pure ?_) | skip
 refine wpAny_bind (wpAny_sequenceKey ht.typeIs (by decide) (wpAny_bind ?_))
 refine wpAny_callSpecial?_slot (name := Str.ofString "__getitem__") ht.typeIs PyProof.Rows.slot_tuple_getitem (wpAny_call_entry PyProof.Rows.slot_tuple_getitem ht.typeIs entry_tuple_getitem ?_ (args_tuple_getitem _ _))
 refine wpAny_bind (m := Builtin.Tuple.tupleItemsOf (.ref t)) (tupleItemsOf_ ht (wpAny_bind (wpAny_typeOf hTs ?_)))
 rw [if_pos (by decide)]
 refine wpAny_bind (sliceApplied_gen hs pl pu ?_)
 have hyes : (((sIx items.size 0 lo : Nat) : Int) == 0 && (1 : Int) == 1 && (sIx items.size items.size hi - sIx items.size 0 lo) == items.size) = true := by
  rw [hw.1, hw.2]
  simp
 show wpAny _ _ (if (((sIx items.size 0 lo : Nat) : Int) == 0 && (1 : Int) == 1 && (sIx items.size items.size hi - sIx items.size 0 lo) == items.size) = true then _ else _) _ _ s
 rw [if_pos hyes]
 refine wpAny_bind ?_
 unfold Builtin.Tuple.tupleIsExact
 refine wpAny_bind (wpAny_typeOf ht.typeIs (wpAny_pure ?_))
 rw [if_pos (by rfl)]
 exact wpAny_bind (wpAny_rule (wpAny_pure ⟨_, rfl, wpAny_pure h⟩))
end
noncomputable def rSlTW (K : PySem.W.Frag) : V -> Option Int -> Option Int -> Hp -> VK -> Prop := fun x lo hi H Q => ∃ a xs, x = .ref a /\ SqT K H a xs /\
 ((HT.sIx xs.length 0 lo = 0 /\ HT.sIx xs.length xs.length hi = xs.length) -> Q (.ref a) H) /\ (¬ (HT.sIx xs.length 0 lo = 0 /\ HT.sIx xs.length xs.length hi = xs.length) -> ∀ p, H p = none -> Q (.ref p) (upd H p (.tup (cutV xs lo hi))))
theorem sl_tupW {X : Cx} (K : PySem.W.Frag) (hK : X.K = K := by rfl) : SlR X (rSlTW K) := by
 subst hK
 intro pins s σ H x v vl vu lo hi sl Q I rx hs pl pu h
 obtain ⟨a, xs, rfl, hx, q1, q2⟩ := h
 by_cases hw : HT.sIx xs.length 0 lo = 0 /\ HT.sIx xs.length xs.length hi = xs.length
 ·cases rx
  obtain ⟨its, r, ht, hz⟩ := I.tuple hx
  have hlen : its.toArray.size = xs.length := by rw [List.size_toArray]; exact r.length.symm
  refine ⟨"tuple", _, PyProof.Rows.slot_tuple_getitem.lookup, ht.typeIs, ?_⟩
  exact getItem_tuple_whole ht hs pl pu (by rw [hlen]; exact hw) ⟨.ref a, H, I, rfl, q1 hw⟩
 ·exact sl_tup pins s σ H _ v vl vu lo hi sl Q I rx hs pl pu ⟨a, xs, rfl, hx, hw, q2 hw⟩
end L2
namespace L2
open PySem PySem.Spec PyProof.Rows
open AutoSeq1 (wpAny_loadPart')
section
variable {prog : Program} {w : World} {A : Around} {E : Value -> Shared -> Prop} {s : Shared}
end
end L2
namespace L2
open PySem PySem.Spec PyProof.Rows
section
variable {X : Cx} {o i : Expr} {pos : Pos} {td ty : TE}
end
noncomputable def rIsXT (K : PySem.W.Frag) : List V -> Hp -> VK -> Prop := fun xs H Q => ∃ (a C tp : Addr) (cs : List V) (b : Bool), xs = [.ref a, .ref tp] /\ H a = some (excO C a) /\ XCls K C /\ H tp = some (.tup cs) /\ (∃ vs, cs.mapM clsV = some vs /\ PySem.W.kitAny K (.ref C) vs = some b) /\ Q (.bl b) H
theorem cls_all : ∀ {cs : List V} {us vs : List Value}, Vals cs us -> cs.mapM clsV = some vs -> us = vs
 | [], _, _, .nil, e => by cases e; rfl
 | c :: cs, _, _, .cons r rr, e => by
  rw [List.mapM_cons] at e
  cases h1 : clsV c with
  | none => rw [h1] at e; cases e
  | some v =>
   rw [h1] at e
   cases h2 : cs.mapM clsV with
   | none => rw [h2] at e; cases e
   | some ws =>
    rw [h2] at e
    cases e
    rw [clsV_rel h1 r, cls_all rr h2]
theorem call_isXT {X : Cx} (K : PySem.W.Frag) (hK : X.K = K := by rfl) : CallR X (.builtin "isinstance") (rIsXT K) := by
 subst hK
 intro pins s σ H xs us Q I r h
 obtain ⟨a, C, tp, cs, b, rfl, ha, F, ht, ⟨vs, hc, e⟩, q⟩ := h
 obtain ⟨u, v, rfl, rx, ry⟩ := vals2 r
 cases rx
 cases ry
 obtain ⟨p, _⟩ := I.hok a _ ha
 obtain ⟨_, its, rv, o, h1, h2, n, h3⟩ := (show ObjOk X.prog X.w H s.heap tp (.tup cs) from I.hok tp _ ht)
 replace h3 : o.data = .seq its.toArray n := congrArg Prod.fst h3
 obtain ⟨ocls, od, odata, osl⟩ := o
 simp only at h2 h3
 subst h2
 subst h3
 cases cls_all rv hc
 exact PySem.W.kia_tup (kitx_exc F) I.kIn p h1 e (fun z => nomatch z) fun tk => ⟨.bl b, H, I.tok tk, rfl, q⟩
end L2
namespace L2
open PySem PySem.Spec PyProof.Rows
theorem no2 {n a : Nat} (h : a < n) (e : a = n + 2) : False := by exact Om.k149 h e
theorem ne2 {n a b : Nat} (h : b < n) (e : a = n + 2) : a ≠ b := by exact Om.k148 h e
theorem add2 (n : Nat) : n + 2 ≠ n := by exact Om.k147 
theorem cells_none : ∀ (names : List (Str × NameKind)) (n : Nat) (acc : List (Str × Addr)) (h : Heap), names.filter (fun y => y.2 == .cell) = [] -> cellsFrom n names acc = acc /\ pushCells h names = h
 | [], _, _, _, _ => ⟨rfl, rfl⟩
 | (x, k) :: r, n, acc, h, e => by
  unfold cellsFrom pushCells
  cases hk : (k == NameKind.cell) with
  | true => rw [List.filter_cons_of_pos (by simpa using hk)] at e; cases e
  | false =>
   rw [List.filter_cons_of_neg (by simpa using hk)] at e
   simp only [Bool.false_eq_true, if_false]
   exact cells_none r n acc h e
theorem cells_one {x0 : Str} : ∀ (names : List (Str × NameKind)) (n : Nat) (acc : List (Str × Addr)) (h : Heap), names.filter (fun y => y.2 == .cell) = [(x0, .cell)] -> cellsFrom n names acc = (x0, n) :: acc /\ pushCells h names = h.push { cls := .type "cell", data := .cell none }
 | [], _, _, _, e => by cases e
 | (x, k) :: r, n, acc, h, e => by
  unfold cellsFrom pushCells
  cases hk : (k == NameKind.cell) with
  | true =>
   rw [List.filter_cons_of_pos (by simpa using hk)] at e
   injection e with e1 e2
   cases e1
   simp only [if_true]
   exact cells_none r (n + 1) ((x0, n) :: acc) _ e2
  | false =>
   rw [List.filter_cons_of_neg (by simpa using hk)] at e
   simp only [Bool.false_eq_true, if_false]
   exact cells_one r n acc h e
section
variable {M : Model} {A : Around} {E : Value -> Shared -> Prop} {s : Shared}
theorem newEnv_cell {scope : Scope} {globals : Addr} {closure : List (Str × Addr)} {qual : Str} {env : Env} {x0 : Str} {Q : Env -> Shared -> Prop} (h1 : scope.names.filter (fun y => y.2 == .cell) = [(x0, .cell)])
  (h : Q { scope, locals := s.heap.objs.size, globals, cells := (x0, s.heap.objs.size + 1) :: closure, qual, func := none, code := env.code, frame := env.frame, builtins := env.builtins } { s with heap := (s.heap.push { cls := .type "dict", data := .dict #[] }).push { cls := .type "cell", data := .cell none } }) :
  wpAny M A (newFunctionEnv scope globals closure [] qual none .none (some env)) Q E s := by
 simp only [newFunctionEnv, Option.isSome_some, if_true]
 refine wpAny_bind (wpAny_alloc ?_)
 refine wpAny_bind (wpAny_layCells _ (fun name kind cells => by cases hkc : kind == NameKind.cell <;> simp [hkc]) _ _ _ _ ?_)
 obtain ⟨e1, e2⟩ := cells_one scope.names (s.heap.push { cls := .type "dict", data := .dict #[] }).objs.size closure (s.heap.push { cls := .type "dict", data := .dict #[] }) h1
 rw [Heap.size_push] at e1
 show wpAny M A _ Q E { s with heap := pushCells (s.heap.push { cls := .type "dict", data := .dict #[] }) scope.names }
 rw [e2]
 rw [List.forIn_nil]
 refine wpAny_bind (wpAny_pure (wpAny_pure ?_))
 rw [show ({ s with heap := s.heap.push { cls := .type "dict", data := .dict #[] } } : Shared).heap.objs.size = s.heap.objs.size + 1 from Heap.size_push ..]
 rw [e1]
 exact h
end
noncomputable def cxCompC (X : Cx) (x0 : Str) (Nc : List Str) (scope : Scope) (cl : List (Str × Addr)) (C : Addr) (s₁ : Shared) (H₁ : Hp) (fp : List Addr) : Cx where
 prog := X.prog
 w := X.w
 K := X.K
 mg := X.mg
 base := X.base
 A := X.A
 N := Nc
 s₀ := s₁
 H₀ := H₁
 env := compEnvC scope cl C X.env
 outer := X.stack
 stack := X.stack
 ex := fp
 fn := fun x => x == x0
 calm := X.calm
 pn := []
 xe := fun _ _ => False
structure CaptC (X : Cx) (x0 : Str) (Nc : List Str) (scope : Scope) (fm : List (Option Nat)) : Prop where
 kind : scope.kind = .function
 one : scope.names.filter (fun y => y.2 == .cell) = [(x0, .cell)]
 nofr : (x0, NameKind.free) ∉ scope.names
 names : ∀ y ∈ scope.names, y.2 = .local -> scope.names.lookup y.1 = some .local
 free : ∀ y ∈ scope.names, y.2 = .free -> X.env.kindOf y.1 = some .cell \/ X.env.kindOf y.1 = some .free
 len : fm.length = Nc.length
 at_ : ∀ (p : Option Nat × Str), p ∈ fm.zip Nc -> ∀ j, p.1 = some j -> X.N[j]? = some p.2 /\ (p.2, NameKind.free) ∈ scope.names /\ scope.names.lookup p.2 = some .free
noncomputable def captOkC (N : List Str) (sc : Scope) (x0 : Str) (Nc : List Str) (scope : Scope) (fm : List (Option Nat)) : Bool :=
 decide (scope.kind = .function) && (decide (scope.names.filter (fun y => y.2 == .cell) = [(x0, .cell)]) && (decide ((x0, NameKind.free) ∉ scope.names) && (scope.names.all (fun y => (decide (y.2 ≠ .local) || decide (scope.names.lookup y.1 = some .local)) &&
  (decide (y.2 ≠ .free) || (decide (sc.names.lookup y.1 = some .cell) || decide (sc.names.lookup y.1 = some .free)))) && (decide (fm.length = Nc.length) &&
  (fm.zip Nc).all (fun p => match p.1 with
   | none => true
   | some j => decide (N[j]? = some p.2) && decide ((p.2, NameKind.free) ∈ scope.names) && decide (scope.names.lookup p.2 = some .free))))))
theorem captOkC.capt {X : Cx} {x0 : Str} {Nc : List Str} {scope : Scope} {fm : List (Option Nat)} (h : captOkC X.N X.env.scope x0 Nc scope fm = true) : CaptC X x0 Nc scope fm := by
 unfold captOkC at h
 rw [Bool.and_eq_true, Bool.and_eq_true, Bool.and_eq_true, Bool.and_eq_true, Bool.and_eq_true] at h
 obtain ⟨h1, h5, h6, h2, h3, h4⟩ := h
 rw [List.all_eq_true] at h2 h4
 have g : ∀ y ∈ scope.names, (y.2 ≠ .local \/ scope.names.lookup y.1 = some .local) /\ (y.2 ≠ .free \/ (X.env.scope.names.lookup y.1 = some .cell \/ X.env.scope.names.lookup y.1 = some .free)) := fun y hy => by
  have := h2 y hy
  simpa only [Bool.and_eq_true, Bool.or_eq_true, decide_eq_true_eq] using this
 refine ⟨of_decide_eq_true h1, of_decide_eq_true h5, of_decide_eq_true h6, fun y hy e => ?_, fun y hy e => ?_, of_decide_eq_true h3, fun p hp j e => ?_⟩
 ·rcases (g y hy).1 with z | z
  ·exact absurd e z
  ·exact z
 ·rcases (g y hy).2 with z | z
  ·exact absurd e z
  ·exact z
 ·have := h4 p hp
  obtain ⟨a, b⟩ := p
  cases e
  simp only [Bool.and_eq_true, decide_eq_true_eq] at this
  exact ⟨this.1.1, this.1.2, this.2⟩
theorem free_of_relabelC {env : Env} {x0 : Str} : ∀ {names : List (Str × NameKind)} {x : Str}, (∀ y ∈ names, y.2 = .cell -> y.1 = x0) ->
    ((names.map fun (n, k) => if (k == NameKind.free && env.scope.kind == .function && env.kindOf n == some .cell) then (n, NameKind.cell) else (n, k)).lookup x = some .cell \/
     (names.map fun (n, k) => if (k == NameKind.free && env.scope.kind == .function && env.kindOf n == some .cell) then (n, NameKind.cell) else (n, k)).lookup x = some .free) -> x = x0 \/ (x, NameKind.free) ∈ names
  | [], _, _, h => by simp at h
  | (n, k) :: r, x, hc, h => by
    have ih := @free_of_relabelC env x0 r x (fun y hy => hc y (List.mem_cons_of_mem _ hy))
    rw [List.map_cons] at h
    cases hx : x == n with
    | true =>
      have hxn : x = n := by simpa using hx
      dsimp only at h
      split at h
      · rename_i hk
        rw [Bool.and_eq_true, Bool.and_eq_true] at hk
        have : k = .free := by simpa using hk.1.1
        rw [hxn, this]
        exact .inr List.mem_cons_self
      · simp only [List.lookup_cons, hx] at h
        rcases h with h | h
        · cases h
          exact .inl (hxn.trans (hc (n, .cell) List.mem_cons_self rfl))
        · cases h
          rw [hxn]
          exact .inr List.mem_cons_self
    | false =>
      dsimp only at h
      split at h
      · simp only [List.lookup_cons, hx] at h
        exact (ih h).imp id (List.mem_cons_of_mem _)
      · simp only [List.lookup_cons, hx] at h
        exact (ih h).imp id (List.mem_cons_of_mem _)
section
variable {X : Cx} {pins : List (Addr × Obj)} {σ : St} {H₁ : Hp} {s₁ : Shared}
theorem comp_invC {x0 : Str} {Nc : List Str} {scope : Scope} {fm : List (Option Nat)} {fp : List Addr} {h₁ : Heap} {tk : Nat} {m : Str -> Option Value} (c : CaptC X x0 Nc scope fm) (I : Inv X pins σ H₁ s₁) (hf : ∀ b ∈ fp, FpOk X pins H₁ b) (hfp : ∀ b ∈ fp, b < s₁.heap.objs.size)
  (old : ∀ b o, s₁.heap.get? b = some o -> h₁.get? b = some o) (hD : h₁.get? s₁.heap.objs.size = some { cls := .type "list", data := .seq ([] : List Value).toArray }) (hns : h₁.Ns (s₁.heap.objs.size + 1) m) (hcl : h₁.IsCell (s₁.heap.objs.size + 2) none) :
  Inv (cxCompC X x0 Nc scope ((x0, s₁.heap.objs.size + 2) :: closOf X.env.cells scope.names []) (s₁.heap.objs.size + 1) s₁ H₁ fp) [] (capt fm σ) (upd H₁ s₁.heap.objs.size (.lst [])) { s₁ with heap := h₁, toks := tk } := by
 have hfree : ∀ y ∈ scope.names, y.2 = .free -> ∃ a, X.env.cells.lookup y.1 = some a := fun y hy e => I.ok.has y.1 (c.free y hy e)
 have sub0 : ∀ x a, (closOf X.env.cells scope.names []).lookup x = some a -> X.env.cells.lookup x = some a := closOf_sub _ _ hfree (fun x a e => by simp at e)
 have lt : ∀ x a, X.env.cells.lookup x = some a -> a < s₁.heap.objs.size := fun x a e => (I.cell x a e).elim fun v q => q.lt
 have look : ∀ x a, ((x0, s₁.heap.objs.size + 2) :: closOf X.env.cells scope.names []).lookup x = some a -> (x = x0 /\ a = s₁.heap.objs.size + 2) \/ X.env.cells.lookup x = some a := fun x a e => by
  rw [List.lookup_cons] at e
  cases hx : (x == x0) with
  | true =>
   rw [hx] at e
   cases e
   exact .inl ⟨by simpa using hx, rfl⟩
  | false =>
   rw [hx] at e
   exact .inr (sub0 x a e)
 have own : ∀ y ∈ scope.names, y.2 = .cell -> y.1 = x0 := fun y hy e => by
  have : y ∈ scope.names.filter (fun y => y.2 == .cell) := List.mem_filter.mpr ⟨hy, by rw [e]; rfl⟩
  rw [c.one] at this
  rw [List.mem_singleton.mp this]
 have hDn : H₁ s₁.heap.objs.size = none := I.hok.fresh (Nat.le_refl _)
 have hCn : H₁ (s₁.heap.objs.size + 1) = none := I.hok.fresh (Nat.le_succ _)
 have hLn : H₁ (s₁.heap.objs.size + 2) = none := I.hok.fresh (by exact Om.k146 )
 refine ⟨⟨I.ok.mod, c.kind, I.ok.glob, I.ok.blt, Nat.le_succ _, fun x y a e1 e2 => ?_, fun x hx => ?_, fun x a z e => ?_, I.ok.hd, I.ok.frames, .inl rfl, fun b hb => ?_, I.bs, Nat.le_trans I.ok.bsz I.sz, fun b o e hb => ?_, fun b hb hfs => ?_, I.stack, I.stkFree⟩,
  rfl, I.bare, Un.laid old (Nat.le_refl _) hDn, ⟨m, hns, fun i x v e1 e2 e3 => ?_⟩, fun x a e => ?_, ?_, fun x a e => ?_, fun p hp => absurd (show p ∈ ([] : List (Addr × Obj)) from hp) (by simp), ?_, ?_⟩
 ·rcases look x a e1 with ⟨z1, z2⟩ | z1
  ·rcases look y a e2 with ⟨w1, w2⟩ | w1
   ·rw [z1, w1]
   ·exact (no2 (lt y a w1) z2).elim
  ·rcases look y a e2 with ⟨w1, w2⟩ | w1
   ·exact (no2 (lt x a z1) w2).elim
   ·exact I.ok.inj x y a z1 w1
 ·show ∃ c, ((x0, s₁.heap.objs.size + 2) :: closOf X.env.cells scope.names []).lookup x = some c
  rw [List.lookup_cons]
  cases hx0 : (x == x0) with
  | true => exact ⟨_, rfl⟩
  | false =>
   rcases free_of_relabelC (env := X.env) own hx with z | z
   ·rw [z] at hx0
    simp at hx0
   ·exact closOf_has _ _ x (.inr z)
 ·have z' : x = x0 := by simpa using (show (x == x0) = true from z)
  rcases look x a e with ⟨_, w2⟩ | w
  ·show s₁.heap.objs.size <= a
   exact Om.k145 w2
  ·rw [show ((cxCompC X x0 Nc scope ((x0, s₁.heap.objs.size + 2) :: closOf X.env.cells scope.names []) (s₁.heap.objs.size + 1) s₁ H₁ fp)).env.cells.lookup x = ((x0, s₁.heap.objs.size + 2) :: closOf X.env.cells scope.names []).lookup x from rfl, List.lookup_cons, z'] at e
   simp at e
   show s₁.heap.objs.size <= a
   exact Om.k144 e
 ·refine ⟨Nat.ne_of_lt (Nat.lt_succ_of_lt (hfp b hb)), fun x a e => ?_⟩
  rcases look x a e with ⟨_, w2⟩ | w
  ·exact ne2 (hfp b hb) w2
  ·exact (hf b hb).2.2.2.2.1 x a w
 ·rcases (hf b hb).2.2.2.1 with z | z
  ·exact I.ok.noex b o e z
  ·exact absurd (Nat.lt_of_lt_of_le (Heap.lt_size e) (Nat.le_trans I.ok.bsz z)) (Nat.lt_irrefl _)
 ·rcases List.mem_cons.mp (I.stkSub b hfs) with z | z
  ·exact (hf b hb).2.1 z
  ·exact (hf b hb).2.2.1 z
 ·-- the names taken over
  have hz : ∃ j, fm[i]? = some (some j) /\ σ[j]? = some (some v) := by
   unfold capt at e2
   rw [List.getElem?_map] at e2
   cases q : fm[i]? with
   | none => rw [q] at e2; cases e2
   | some o =>
    rw [q] at e2
    cases o with
    | none => cases e2
    | some j =>
     refine ⟨j, rfl, ?_⟩
     have e2' : (σ[j]?).join = some v := Option.some.inj e2
     cases q2 : σ[j]? with
     | none => rw [q2] at e2'; cases e2'
     | some u => rw [q2] at e2'; cases u with
      | none => cases e2'
      | some u => cases e2'; rfl
  obtain ⟨j, hfm, hσ⟩ := hz
  have hp : ((some j : Option Nat), x) ∈ fm.zip Nc := by
   have : (fm.zip Nc)[i]? = some (some j, x) := by rw [List.getElem?_zip_eq_some]; exact ⟨hfm, e1⟩
   exact List.mem_of_getElem? this
  obtain ⟨hN, hmem, hlk⟩ := c.at_ _ hp j rfl
  have hk := c.free _ hmem rfl
  obtain ⟨m0, hn0, hl0⟩ := I.loc
  have hvis : Vis X.env.scope x := hk.elim (fun z => .inr (.inl z)) (fun z => .inr (.inr z))
  obtain ⟨u, ru, lk⟩ := hl0 j x v hN hσ hvis
  have hx0 : (x == x0) = false := by
   cases q : (x == x0) with
   | false => rfl
   | true =>
    have q' : x = x0 := by simpa using q
    exact absurd (q' ▸ hmem) c.nofr
  refine ⟨u, ru, .inr ⟨lookup_relabel_free (env := X.env) hlk, ?_⟩⟩
  rcases lk with ⟨z, _⟩ | ⟨_, a, ea, o, ho, hd⟩
  ·rcases hk with q | q
   ·rw [show X.env.kindOf x = _ from q] at z; cases z
   ·rw [show X.env.kindOf x = _ from q] at z; cases z
  ·obtain ⟨a', ea'⟩ := closOf_has (cells := X.env.cells) scope.names [] x (.inr hmem)
   have := sub0 x a' ea'
   rw [ea] at this
   cases this
   refine ⟨a, ?_, o, old a o ho, hd⟩
   show ((x0, s₁.heap.objs.size + 2) :: closOf X.env.cells scope.names []).lookup x = some a
   rw [List.lookup_cons, hx0]
   exact ea'
 ·rcases look x a e with ⟨_, w2⟩ | w
  ·rw [w2]
   exact ⟨none, hcl⟩
  ·obtain ⟨v, o, ho, hd⟩ := I.cell x a w
   exact ⟨v, o, old a o ho, hd⟩
 ·show upd H₁ s₁.heap.objs.size (.lst []) (s₁.heap.objs.size + 1) = none
  rw [upd_ne (Nat.succ_ne_self _)]
  exact hCn
 ·show upd H₁ s₁.heap.objs.size (.lst []) a = none
  rcases look x a e with ⟨_, w2⟩ | w
  ·rw [w2, upd_ne (add2 _)]
   exact hLn
  ·rw [upd_ne (Nat.ne_of_lt (lt x a w))]
   exact I.freeC x a w
 ·exact I.hok.laid old (Nat.le_refl _) ⟨Nat.zero_le _, [], 0, .nil, hD⟩
 ·show (capt fm σ).length = Nc.length
  unfold capt
  rw [List.length_map]
  exact c.len
theorem comp_backC {x0 : Str} {Nc : List Str} {scope : Scope} {cl : List (Str × Addr)} {C : Addr} {fp : List Addr} {σ' : St} {H' : Hp} {s' : Shared} (I : Inv X pins σ H₁ s₁) (hf : ∀ b ∈ fp, FpOk X pins H₁ b) (J : Inv (cxCompC X x0 Nc scope cl C s₁ H₁ fp) [] σ' H' s') :
  Inv X pins σ H' s' := I.call' (ch := fp) J.os J.base J.hok J.bare fun b hb => ⟨(hf b hb).2.2.2.1, (hf b hb).2.1, (hf b hb).2.2.2.2.1, (hf b hb).2.2.2.2.2⟩
theorem comp_goC {x0 : Str} {Nc : List Str} {scope : Scope} {cl : List (Str × Addr)} {fp : List Addr} {σ' : St} {H' : Hp} {s' : Shared} {σ2 : St} {s2 : Shared} {h'' : Heap} (I : Inv X pins σ H₁ s₁) (J : Inv (cxCompC X x0 Nc scope cl (s₁.heap.objs.size + 1) s₁ H₁ fp) [] σ' H' s')
  (I2 : Inv X pins σ2 H' s2) (sb : Heap.SameBut (s₁.heap.objs.size + 1) s2.heap h'') : Inv X pins σ2 H' { s2 with heap := h'' } := by
 have hle : s₁.heap.objs.size <= s₁.heap.objs.size + 1 := Nat.le_succ _
 refine I2.turned (t' := s2.toks) (it := s₁.heap.objs.size + 1) (fun b o hb e => (sb.2 b hb).trans e) J.free (Nat.ne_of_gt (Nat.lt_of_lt_of_le I.lt hle)) (.inr (Nat.le_trans I.sz hle)) (fun x c e z => ?_) (fun p hp z => ?_)
 ·obtain ⟨v, q⟩ := I.cell x c e
  exact absurd (Nat.lt_of_lt_of_le q.lt (by rw [z]; exact hle)) (Nat.lt_irrefl _)
 ·exact absurd (Nat.lt_of_lt_of_le (Heap.lt_size (I.pin p hp).1) (by rw [z]; exact hle)) (Nat.lt_irrefl _)
theorem comp_blockC {elt tg iter : Expr} {ifs : List Expr} {scope : Scope} {pos : Pos} {x0 : Str} {Nc : List Str} {fm : List (Option Nat)} {g : TG} {tt : TT} {te : TE} {it : Addr} {fp : List Addr} {tn : Nat -> Heap -> Prop} {J : It} {Q : VK} {E : Value -> Shared -> Prop} {RR : Value -> Addr -> Result -> Shared -> Prop}
    (hc : X.calm = true) (c : CaptC X x0 Nc scope fm) (I : Inv X pins σ H₁ s₁) (T : Turn X.prog X.w X.K tg J fp it tn) (st : tn 0 s₁.heap) (hf : ∀ b ∈ fp, FpOk X pins H₁ b)
    (hg : ∀ cl C s₁ H₁ fp, PG (cxCompC X x0 Nc scope cl C s₁ H₁ fp) tg g) (ht : ∀ cl C s₁ H₁ fp, PTs (cxCompC X x0 Nc scope cl C s₁ H₁ fp) ifs tt) (he : ∀ cl C s₁ H₁ fp, PE (cxCompC X x0 Nc scope cl C s₁ H₁ fp) elt te)
    (h : ∀ l, H₁ l = none -> ∃ W : Nat -> Nat -> List V -> St -> Hp -> Prop, (∃ m, W 0 m [] (capt fm σ) (upd H₁ l (.lst []))) /\
      ∀ i m ys σ' H', W i m ys σ' H' -> H' l = some (.lst ys) /\
        ((J.stop i H' /\ Q (.ref l) H') \/
         (J.go i H' /\ ∃ N : List V -> St -> Hp -> Prop, (∀ zs σ2 H2, N zs σ2 H2 -> ∃ m', m' < m /\ W (i + 1) m' zs σ2 H2) /\ ∀ x H2, J.yld i H' x H2 -> g x σ' H2 fun σ3 H3 => tt σ3 H3 fun b H4 =>
            if b = true then te σ3 H4 fun y H5 => H5 l = some (.lst ys) /\ ys.length < sizeLine /\ N (ys ++ [y]) σ3 (upd H5 l (.lst (ys ++ [y])))
            else N ys σ3 H4)))
    (fin : ∀ σ' H' s', Inv (cxCompC X x0 Nc scope ((x0, s₁.heap.objs.size + 2) :: closOf X.env.cells scope.names []) (s₁.heap.objs.size + 1) s₁ H₁ fp) [] σ' H' s' -> Q (.ref s₁.heap.objs.size) H' -> RR (.ref s₁.heap.objs.size) (s₁.heap.objs.size + 1) (.ok .next) s') :
    wpAny (model X.prog X.w) X.A (newList []) (fun acc s₃ => wpAny (model X.prog X.w) X.A (newFunctionEnv scope X.env.globals (closOf X.env.cells scope.names []) [] X.env.qual none .none (some X.env)) (fun cenv s₄ =>
      codeAny (model X.prog X.w) X.A (.compStart (.ListComp elt [⟨tg, iter, ifs, 0⟩] scope pos) 0 (.ref it) acc { cenv with scope := relabel scope X.env }) (RR acc cenv.locals) s₄) E s₃) E s₁ := by
  have hfp : ∀ b ∈ fp, b < s₁.heap.objs.size := fun b hb => by
    obtain ⟨o, ho, _⟩ := T.obj 0 _ st b hb
    exact Heap.lt_size ho
  refine wpAny_newObj_type (newEnv_cell c.one ?_)
  dsimp only
  generalize hH2 : s₁.heap.push { cls := .type "list", dict := none, data := .seq ([] : List Value).toArray } = H2
  have hC : H2.objs.size = s₁.heap.objs.size + 1 := by rw [<- hH2, Heap.size_push]
  show codeAny _ _ (.compStart _ 0 _ _ (compEnvC scope ((x0, H2.objs.size + 1) :: closOf X.env.cells scope.names []) H2.objs.size X.env)) (RR _ H2.objs.size) _
  have hns₁ : ((H2.push { cls := .type "dict", data := .dict #[] }).push { cls := .type "cell", data := .cell none }).Ns (s₁.heap.objs.size + 1) (fun _ => none) := by
    rw [<- hC]
    exact (Heap.Ns.new H2 (.type "dict")).keeps fun b o e => Heap.get?_push_of_some _ e
  have old2 : ∀ b o, H2.get? b = some o -> ((H2.push { cls := .type "dict", data := .dict #[] }).push { cls := .type "cell", data := .cell none }).get? b = some o := fun b o e => Heap.get?_push_of_some _ (Heap.get?_push_of_some _ e)
  have hcl : ((H2.push { cls := .type "dict", data := .dict #[] }).push { cls := .type "cell", data := .cell none }).IsCell (s₁.heap.objs.size + 2) none := by
    have e : s₁.heap.objs.size + 2 = (H2.push { cls := .type "dict", data := .dict #[] }).objs.size := by rw [Heap.size_push, hC]
    rw [e]
    exact ⟨_, Heap.get?_push_size _ rfl, rfl⟩
  generalize ((H2.push { cls := .type "dict", data := .dict #[] }).push { cls := .type "cell", data := .cell none }) = h₁ at hns₁ old2 hcl ⊢
  rw [hC]
  have old : ∀ b o, s₁.heap.get? b = some o -> h₁.get? b = some o := fun b o e => old2 b o (hH2 ▸ Heap.get?_push_of_some _ e)
  have hD : h₁.get? s₁.heap.objs.size = some { cls := .type "list", data := .seq ([] : List Value).toArray } := old2 _ _ (hH2 ▸ Heap.get?_push_size _ rfl)
  have st1 : tn 0 h₁ := T.keep _ _ _ st fun b _ o e => old b o e
  have hDn : H₁ s₁.heap.objs.size = none := I.hok.fresh (Nat.le_refl _)
  obtain ⟨W, ⟨m0, w0⟩, turn⟩ := h _ hDn
  have loop : ∀ tk : Nat, codeAny (model X.prog X.w) X.A (.compLoop (.ListComp elt [⟨tg, iter, ifs, 0⟩] scope pos) 0 (.ref it) (.ref s₁.heap.objs.size) (compEnvC scope ((x0, s₁.heap.objs.size + 2) :: closOf X.env.cells scope.names []) (s₁.heap.objs.size + 1) X.env))
      (RR (.ref s₁.heap.objs.size) (s₁.heap.objs.size + 1)) { s₁ with heap := h₁, toks := tk } := by
    intro tk
    have I0 := comp_invC (tk := tk) c I hf hfp old hD hns₁ hcl
    have stat : ∀ {H' : Hp}, (∀ b ∈ fp, H' b = none) -> ∀ b ∈ fp, FpOk (cxCompC X x0 Nc scope ((x0, s₁.heap.objs.size + 2) :: closOf X.env.cells scope.names []) (s₁.heap.objs.size + 1) s₁ H₁ fp) [] H' b := fun hn b hb =>
      ⟨hn b hb, (I0.ok.exf b hb).1, I0.ok.exfs b hb, .inl hb, (I0.ok.exf b hb).2, fun p hp => absurd (show p ∈ ([] : List (Addr × Obj)) from hp) (by simp)⟩
    refine compLoop_T (fun n s' => ∃ i ys σ' H', Inv (cxCompC X x0 Nc scope ((x0, s₁.heap.objs.size + 2) :: closOf X.env.cells scope.names []) (s₁.heap.objs.size + 1) s₁ H₁ fp) [] σ' H' s' /\ tn i s'.heap /\ (∀ b ∈ fp, H' b = none) /\ W i n ys σ' H') ?_ m0
      ⟨0, [], _, _, I0, st1, fun b hb => by rw [upd_ne (Nat.ne_of_lt (hfp b hb))]; exact (hf b hb).1, w0⟩
    rintro n s3 ⟨i, ys, σ3, H3, I3, st3, fr3, w3⟩
    obtain ⟨hl, alt⟩ := turn i n ys σ3 H3 w3
    rcases alt with ⟨stop, qn⟩ | ⟨go, N, hN, step⟩
    · refine thn (T.done (cxCompC X x0 Nc scope ((x0, s₁.heap.objs.size + 2) :: closOf X.env.cells scope.names []) (s₁.heap.objs.size + 1) s₁ H₁ fp) rfl rfl rfl hc i [] s3 σ3 H3 NoX I3 (stat fr3) st3 stop) fun r s4 zz0 => ?_
      obtain ⟨hr, I4⟩ := zz0
      subst hr
      exact fin σ3 H3 s4 I4 qn
    · refine thn (T.item (cxCompC X x0 Nc scope ((x0, s₁.heap.objs.size + 2) :: closOf X.env.cells scope.names []) (s₁.heap.objs.size + 1) s₁ H₁ fp) rfl rfl rfl hc i [] s3 σ3 H3 NoX I3 (stat fr3) st3 go) fun r s4 zz0 => ?_
      obtain ⟨u, hr, h4⟩ := zz0
      subst hr
      refine thn h4 fun _ s5 zz0 => ?_
      obtain ⟨x, H5, I5, r5, y5, st5, fr5⟩ := zz0
      have I5' := I5.pinned (stat fr5) (T.obj _ _ st5)
      have again : ∀ {σ7 : St} {H7 : Hp} {s7 : Shared} {zs : List V} {m' : Nat}, Inv (cxCompC X x0 Nc scope ((x0, s₁.heap.objs.size + 2) :: closOf X.env.cells scope.names []) (s₁.heap.objs.size + 1) s₁ H₁ fp) ([] ++ pinsAt fp s5.heap) σ7 H7 s7 -> m' < n -> W (i + 1) m' zs σ7 H7 ->
          ∃ m, m < n /\ ∃ i ys σ' H', Inv (cxCompC X x0 Nc scope ((x0, s₁.heap.objs.size + 2) :: closOf X.env.cells scope.names []) (s₁.heap.objs.size + 1) s₁ H₁ fp) [] σ' H' s7 /\ tn i s7.heap /\ (∀ b ∈ fp, H' b = none) /\ W i m ys σ' H' := fun {σ7 H7 s7 zs m'} I7 hm w7 => by
        refine ⟨m', hm, i + 1, zs, σ7, H7, I7.unpinned, T.keep _ _ _ st5 fun b hb o e => (I7.pin (b, o) (List.mem_append_right _ (List.mem_append_right _ (mem_pinsAt hb e)))).1, fun b hb => ?_, w7⟩
        obtain ⟨o, e, d⟩ := T.obj _ _ st5 b hb
        exact (I7.pin (b, o) (List.mem_append_right _ (List.mem_append_right _ (mem_pinsAt hb e)))).2.1
      refine thn (hg _ _ _ _ _ _ s5 σ3 H5 x u _ I5' r5 (step x H5 y5)) fun _ s6 zz0 => ?_
      obtain ⟨σ6, H6, I6, q6⟩ := zz0
      refine thn (ht _ _ _ _ _ _ s6 σ6 H6 _ I6 q6) fun ok s7 zz0 => ?_
      obtain ⟨H7, I7, q7⟩ := zz0
      cases ok with
      | false =>
        rw [if_neg Bool.false_ne_true] at q7 ⊢
        obtain ⟨m', hm, w7⟩ := hN _ _ _ q7
        exact again I7 hm w7
      | true =>
        rw [if_pos rfl] at q7 ⊢
        refine thn (he _ _ _ _ _ _ s7 σ6 H7 _ I7 q7) fun y s8 zz0 => ?_
        obtain ⟨v8, H8, I8, r8, hl8, hz8, n8⟩ := zz0
        obtain ⟨m', hm, w8⟩ := hN _ _ _ n8
        refine thn (mt_append _ s8 σ6 H8 (.ref s₁.heap.objs.size) [v8] (.ref s₁.heap.objs.size) [y] (fun v H' => H' = upd H8 s₁.heap.objs.size (.lst (ys ++ [v8]))) I8 rfl (.cons r8 .nil) ⟨_, ys, v8, rfl, rfl, hl8, hz8, rfl⟩) fun _ s9 zz0 => ?_
        obtain ⟨_, H9, I9, _, e9⟩ := zz0
        subst e9
        exact again I9 hm w8
  exact codeAny_compStart_list (loop _) (T.self _ 0 _ _ _ st1 (loop _))
end
section
variable {X : Cx} {elt tg iter : Expr} {ifs : List Expr} {scope : Scope} {pos spos : Pos} {wi : TI} {g : TG} {tt : TT} {te : TE}
theorem pe_lcC (x0 : Str) (Nc : List Str) (fm : List (Option Nat)) (hc : X.calm = true) (hk : captOkC X.N X.env.scope x0 Nc scope fm = true) (hi : PI X tg iter wi)
  (hg : ∀ cl C s₁ H₁ fp, PG (cxCompC X x0 Nc scope cl C s₁ H₁ fp) tg g) (ht : ∀ cl C s₁ H₁ fp, PTs (cxCompC X x0 Nc scope cl C s₁ H₁ fp) ifs tt) (he : ∀ cl C s₁ H₁ fp, PE (cxCompC X x0 Nc scope cl C s₁ H₁ fp) elt te)
  (hs : ∀ x, foldedSetIterable iter X.env x = pure x := by intro _; rfl) : PE X (.ListComp elt [⟨tg, iter, ifs, 0⟩] scope pos) (tComp fm wi g tt te) := by
 intro pins s σ H Q I h
 have c := captOkC.capt hk
 rw [eval_ListComp]
 refine wpAny_comprehension_free (use := none) rfl hs (closureFor_eq fun y hy e => I.ok.has y.1 (c.free y hy e)) c.kind c.names (thn (hi pins s σ H _ I h) fun v s1 h1 => thn h1 fun itv s2 h2 => ?_)
 obtain ⟨it, fp, tn, J, H2, e, I2, T, st2, f2, h⟩ := h2
 subst e
 refine comp_blockC (RR := fun acc C => compPost (model X.prog X.w) X.A X.xe none (EP X pins σ Q) acc C) hc c I2 T st2 f2 hg ht he h fun σ' H' s' J' q => ?_
 obtain ⟨m, hn, _⟩ := J'.loc
 exact ⟨m, hn, fun h'' sb => ⟨.ref s2.heap.objs.size, H', comp_goC I2 J' (comp_backC I2 f2 J') sb, rfl, q⟩⟩
end
theorem pg_own {X : Cx} {x0 : Str} {Nc : List Str} {scope : Scope} {cl : List (Str × Addr)} {C : Addr} {s₁ : Shared} {H₁ : Hp} {fp : List Addr} (i : Nat) {pos : Pos} (hN : Nc.Nodup := by decide +kernel) (hi : Nc[i]? = some x0 := by rfl)
  (hx : (relabel scope X.env).names.lookup x0 = some .cell := by rfl) : PG (cxCompC X x0 Nc scope cl C s₁ H₁ fp) (.Name x0 pos) (gName i) := pg_name hN hi (.inr hx) (.inl (by show (x0 == x0) = true; simp))
end L2
namespace L2
open PySem PySem.Spec PyProof.Rows
section
variable {prog : Program} {w : World} {A : Around} {E : Value -> Shared -> Prop} {s : Shared}
theorem intsAre_len : ∀ {vs : List Value} {ns : List Int}, IntsAre vs ns -> vs.length = ns.length
 | _, _, .nil => rfl
 | _, _, .cons _ _ r => by rw [List.length_cons, List.length_cons, intsAre_len r]
end
section
variable {X : Cx} {o e : Expr} {to : TE} {t : TA} {apos cpos : Pos}
end
end L2
namespace My
open PySem L2
theorem pg_tupK {X : Cx} {pos : Pos} {es : List Expr} {k : Nat} {t : TGs} {n : Nat} (K : PySem.W.Frag) (hc : X.calm = true) (h : PGs X es t) (hK : X.K = K := by rfl)
  (hn : (assignEach es X.env).length = n := by rfl) (hst : (assignEach es X.env).findIdx? (·.1) = none := by rfl) : PG X (.Tuple es k pos) (gTup K n t) := by subst hK; exact pg_tup hc h hn hst
end My
namespace L2
open PySem PySem.Spec PyProof.Rows
open PySem.SeqAt
end L2
namespace L2
open PySem PySem.Spec PyProof.Rows
theorem vals_rev : ∀ {xs : List V} {us : List Value}, Vals xs us -> Vals xs.reverse us.reverse
 | _, _, .nil => .nil
 | _, _, .cons r t => by
  rw [List.reverse_cons, List.reverse_cons]
  exact (vals_rev t).append (.cons r .nil)
end L2
namespace L2
open PySem PySem.Spec PyProof.Rows PySem.W
noncomputable def runT {α : Type} (n : Nat) (lt : Nat -> Nat -> Bool) : KasT α -> Option α
 | .ret a => some a
 | .ask i j k => if decide (i < n) && decide (j < n) then runT n lt (k (lt i j)) else none
theorem runT_wp {α : Type} {n : Nat} {lt : Nat -> Nat -> Bool} {cmp : Nat -> Nat -> (Bool -> Shared -> Prop) -> Shared -> Prop} {Q : α -> Shared -> Prop} {s : Shared} (hc : ∀ i j (C : Bool -> Shared -> Prop), i < n -> j < n -> C (lt i j) s -> cmp i j C s) :
  ∀ (t : KasT α) {a : α}, runT n lt t = some a -> Q a s -> t.kasWp cmp Q s
 | .ret b, a, e, q => by
  have e' : b = a := Option.some.inj e
  subst e'
  exact q
 | .ask i j k, a, e, q => by
  unfold runT at e
  cases hb : (decide (i < n) && decide (j < n)) with
  | false => rw [hb] at e; cases e
  | true =>
   rw [hb] at e
   rw [Bool.and_eq_true, decide_eq_true_eq, decide_eq_true_eq] at hb
   exact hc i j _ hb.1 hb.2 (runT_wp hc (k (lt i j)) e q)
noncomputable def lexB : List Int -> List Int -> Bool
 | x :: xs, y :: ys => if x = y then lexB xs ys else decide (x < y)
 | _, _ => false
section
variable {prog : Program} {w : World} {A : Around} {E : Value -> Shared -> Prop} {s : Shared}
theorem lex_kat {b : Bool} {Q : Bool -> Shared -> Prop} : ∀ {us vs : List Value} {xs ys : List Int} {i : Nat}, IntsAre us xs -> IntsAre vs ys -> xs.length = ys.length -> Q (lexB xs ys) s -> KatLex prog w A b false Q (us.zip vs) i s
 | _, _, _, _, _, .nil, .nil, _, q => q
 | _, _, _, _, _, .cons _ _ _, .nil, e, _ => by cases e
 | _, _, _, _, _, .nil, .cons _ _ _, e, _ => by cases e
 | _, _, x :: xs, y :: ys, i, .cons _ t r, .cons _ u r', e, q => by
  refine kat_cons (wpAny_eqBool_int ?_)
  unfold lexB at q
  by_cases hx : x = y
  ·subst hx
   rw [if_pos rfl] at q
   have hb : (x == x) = true := by simp
   rw [hb]
   exact kat_yes (lex_kat r r' (Nat.succ.inj e) q)
  ·rw [if_neg hx] at q
   have hb : (x == y) = false := by simpa using hx
   rw [hb]
   refine kat_no ?_
   cases hbi : (b && i == 0) with
   | true => exact oneLt_int q
   | false => exact kat_one _ _ (lt_int q)
noncomputable def Tups (h : Heap) : List Value -> List (List Int) -> Prop := Paired fun v r => ∃ a o us n, v = Value.ref a /\ h.get? a = some o /\ o.cls = .type "tuple" /\ o.data = .seq (List.toArray us) n /\ IntsAre us r
theorem tups_firsts {h : Heap} {M : Model} : ∀ {vs : List Value} {S : List (List Int)}, Tups h vs S -> (∀ r ∈ S, r ≠ []) -> ∃ fs, KatTups h vs fs /\ fs.length = vs.length /\ ∀ v ∈ fs, Looks M h (typeOf v) (.type "int")
 | _, _, .nil, _ => ⟨[], .nil, rfl, fun v hv => by cases hv⟩
 | _, _, .cons ⟨a, o, us, n, e, g, c, d, iu⟩ t, hS => by
  subst e
  obtain ⟨fs, k, hl, hT⟩ := tups_firsts (M := M) t fun r hr => hS r (List.mem_cons_of_mem _ hr)
  have h0 := hS _ List.mem_cons_self
  cases iu with
  | nil => exact absurd rfl h0
  | cons x tk r =>
   refine ⟨.int x tk :: fs, KatTups.cons g c d rfl k, by rw [List.length_cons, List.length_cons, hl], fun v hv => ?_⟩
   rcases List.mem_cons.mp hv with e | hv
   ·subst e
    exact Looks.of_pure rfl
   ·exact hT v hv
theorem list_sort_tups {a : Addr} {vs : List Value} {S : List (List Int)} {n k : Nat} {p : Array Nat} {P : PySem.Fin -> Shared -> Prop} (ho : s.heap.get? a = some (seqObj "list" vs.toArray n)) (ht : Tups s.heap vs S) (hk : ∀ r ∈ S, r.length = k) (hk0 : 0 < k)
  (h2 : 2 <= vs.length) (h64 : vs.length < 64) (hp : runT vs.length (fun i j => lexB (S.getD i []) (S.getD j [])) (kas_sort vs.length) = some p)
  (h : P (.done (.ret .none)) { s with heap := sortedHeap s.heap a vs (List.toArray (p.toList.map fun i => vs.getD i Value.none)) }) :
  wpAny (model prog w) A (Builtin.«list.sort» ⟨[.ref a], []⟩) P E s := by
 have ha : a < s.heap.objs.size := Heap.lt_size ho
 obtain ⟨e1, ho1⟩ : ∃ e1, (s.heap.update a (Obj.mapSeq fun _ => (#[] : Array Value))).get? a = some (seqObj "list" #[] e1) := ⟨_, get?_update_seq ho fun _ => #[]⟩
 have keep : ∀ b o, b ≠ a -> s.heap.get? b = some o -> (((s.heap.update a (Obj.mapSeq fun _ => (#[] : Array Value))).push (seqObj "tuple" vs.toArray 0)).push (seqObj "list" #[] 0)).get? b = some o := fun b o hb e => by
  refine Heap.get?_push_of_some _ (Heap.get?_push_of_some _ ?_)
  rw [Heap.get?_update_ne _ _ _ _ hb]
  exact e
 have ho6 : (((s.heap.update a (Obj.mapSeq fun _ => (#[] : Array Value))).push (seqObj "tuple" vs.toArray 0)).push (seqObj "list" #[] 0)).get? a = some (seqObj "list" #[] e1) := Heap.get?_push_of_some _ (Heap.get?_push_of_some _ ho1)
 have ht3 : Tups (((s.heap.update a (Obj.mapSeq fun _ => (#[] : Array Value))).push (seqObj "tuple" vs.toArray 0)).push (seqObj "list" #[] 0)) vs S := Paired.mapP ht fun v r ⟨b, o, us, m, e, g, c, d, iu⟩ => by
  refine ⟨b, o, us, m, e, keep b o (fun z => ?_) g, c, d, iu⟩
  rw [z, ho] at g
  cases g
  exact absurd c (by simp [seqObj])
 rw [list_sort_plain]
 refine wpAny_bind (listItems_at ho rfl ?_)
 refine wpAny_bind (listUpdate_at ho rfl ?_ (by rw [List.size_toArray, sizeLine_eq]; exact Om.k139 h2 h64) (Nat.zero_le _))
 refine wpAny_bind (seqEpoch_at ho1 rfl ?_)
 refine wpAny_bind (wpAny_newTuple ?_ (by show vs.length <= _; rw [sizeLine_eq]; exact Om.k139 h2 h64))
 refine wpAny_bind (wpAny_newList ?_ (Nat.zero_le _))
 refine wpAny_holding ?_
 show wpAny (model prog w) A _ P E { s with heap := ((s.heap.update a (Obj.mapSeq fun _ => (#[] : Array Value))).push (seqObj "tuple" vs.toArray 0)).push (seqObj "list" #[] 0) }
 dsimp only
 have hn2 : ¬ vs.toArray.size < 2 := by rw [List.size_toArray]; exact Om.k143 h2 h64
 rw [if_neg hn2, if_neg hn2]
 obtain ⟨fs, kt, hfl, hT⟩ := tups_firsts (M := model prog w) ht3 (fun r hr z => by have := hk r hr; rw [z] at this; simp at this; exact (Om.k142 hk0 this).elim)
 refine wpAny_bind (kat_kind kt (by exact Om.k141 h2 h64 hfl) hT rfl ?_)
 have hlen : vs.length = S.length := Paired.length ht3
 have hk3 : (kas_sort vs.length).kasWp (kas_ask prog w A (tuples' (Value.type "int" != Value.type "tuple")) vs) (fun p' s' => p' = p /\ s' = { s with heap := ((s.heap.update a (Obj.mapSeq fun _ => (#[] : Array Value))).push (seqObj "tuple" vs.toArray 0)).push (seqObj "list" #[] 0) }) { s with heap := ((s.heap.update a (Obj.mapSeq fun _ => (#[] : Array Value))).push (seqObj "tuple" vs.toArray 0)).push (seqObj "list" #[] 0) } := by
  refine runT_wp (fun i j C hi hj hC => ?_) _ hp ⟨rfl, rfl⟩
  obtain ⟨ri, hri, bi, oi, ui, mi, ei, gi, ci, di, ii⟩ := Paired.getL ht3 (List.getElem?_eq_getElem hi)
  obtain ⟨rj, hrj, bj, oj, uj, mj, ej, gj, cj, dj, ij⟩ := Paired.getL ht3 (List.getElem?_eq_getElem hj)
  have e1 : vs.getD i Value.none = .ref bi := by rw [List.getD_eq_getElem?_getD, List.getElem?_eq_getElem hi, ei]; rfl
  have e2 : vs.getD j Value.none = .ref bj := by rw [List.getD_eq_getElem?_getD, List.getElem?_eq_getElem hj, ej]; rfl
  have e3 : S.getD i [] = ri := by rw [List.getD_eq_getElem?_getD, hri]; rfl
  have e4 : S.getD j [] = rj := by rw [List.getD_eq_getElem?_getD, hrj]; rfl
  have l1 := hk ri (List.mem_of_getElem? hri)
  have l2 := hk rj (List.mem_of_getElem? hrj)
  rw [e3, e4] at hC
  show wpAny (model prog w) A (keyLt' _ (vs.getD i Value.none) (vs.getD j Value.none)) C _ _
  rw [e1, e2]
  have hsz : decide ((List.toArray ui).size < (List.toArray uj).size) = false := by
   rw [List.size_toArray, List.size_toArray, intsAre_len ii, intsAre_len ij, l1, l2]
   simp
  refine kat_lt gi di gj dj ?_
  rw [hsz]
  exact lex_kat ii ij (l1.trans l2.symm) hC
 refine wpAny_bind (wpAny_mono (kat_run (ks := vs) (Q := fun st' s' => ∃ p' : Array Nat, p'.size = vs.length /\ arrOf st' = p'.map (kas_item (vs.toArray.zip vs.toArray)) /\ failedOf st' = none /\ p' = p /\ s' = { s with heap := ((s.heap.update a (Obj.mapSeq fun _ => (#[] : Array Value))).push (seqObj "tuple" vs.toArray 0)).push (seqObj "list" #[] 0) })
  rfl h2 h64 (fun p' st' s' a1 a2 a3 a4 => ⟨p', a1, a2, a3, a4⟩) hk3) ?_ fun _ _ e => e)
 rintro ⟨⟨⟩, st'⟩ s' ⟨p', hpz, har, hf, rfl, rfl⟩
 dsimp only
 have hout := kat_snds rfl har
 have hsz : (List.toArray (p'.toList.map fun i => vs.getD i Value.none)).size = vs.length := by rw [List.size_toArray, List.length_map, Array.length_toList, hpz]
 rw [hout]
 refine wpAny_bind (seqEpoch_at ho6 rfl ?_)
 refine wpAny_bind (listUpdate_at ho6 rfl ?_ (Nat.zero_le _) (Nat.le_trans (Nat.le_of_eq hsz) (by rw [sizeLine_eq]; exact Om.k140 h2 h64 hfl hlen hpz hsz)))
 rw [hf]
 simp only [bne_self_eq_false, Bool.false_eq_true, if_false]
 exact wpAny_pure h
theorem sorted_tups {d : Addr} {vs : List Value} {S : List (List Int)} {k : Nat} {p : Array Nat} {Q : Value -> Shared -> Prop} (hl : s.heap.IsList d vs.toArray) (ht : Tups s.heap vs S) (hk : ∀ r ∈ S, r.length = k) (hk0 : 0 < k)
  (h2 : 2 <= vs.length) (h64 : vs.length < 64) (hp : runT vs.length (fun i j => lexB (S.getD i []) (S.getD j [])) (kas_sort vs.length) = some p)
  (h : ∀ (l : Addr) (h1 h' : Heap) (e : Nat), (∀ b o, s.heap.get? b = some o -> h1.get? b = some o) -> h1.objs.size <= l -> (∀ b o, h1.get? b = some o -> h'.get? b = some o) -> h'.get? l = some (seqObj "list" (List.toArray (p.toList.map fun i => vs.getD i Value.none)) e) -> Q (.ref l) { s with heap := h' }) :
  wpAny (model prog w) A (call (.builtin "sorted") [.ref d]) Q E s := by
 obtain ⟨o, ho, hc, n, hd⟩ := id hl
 refine Calls.call_function_entry kind_sorted plain_sorted entry_sorted (args_sorted1 _) ?_
 unfold Builtin.«sorted»
 refine wpAny_bind (m := checkCount "sorted" 1 1 _) (wpAny_pure (wpAny_bind ?_))
 have hz : vs.toArray.size <= sizeLine := by rw [List.size_toArray, sizeLine_eq]; exact Om.k139 h2 h64
 refine wpAny_collect_seq (hsz := hz) d (.inl rfl) ho hc hd fun h1 k1 => ?_
 rw [List.toList_toArray]
 refine wpAny_bind (wpAny_newList ?_ (by rw [sizeLine_eq]; exact Om.k139 h2 h64))
 have g : (h1.push (seqObj "list" vs.toArray 0)).get? h1.objs.size = some (seqObj "list" vs.toArray 0) := Heap.get?_push_size _ rfl
 have ht1 : Tups (h1.push (seqObj "list" vs.toArray 0)) vs S := Paired.mapP ht fun v r ⟨b, o, us, m, e, g, c, d, iu⟩ => ⟨b, o, us, m, e, Heap.get?_push_of_some _ (k1 _ _ g), c, d, iu⟩
 refine wpAny_bind (wpAny_holding (wpAny_call_entry slot_list_sort ⟨_, g, rfl⟩ entry_list_sort (list_sort_tups g ht1 hk hk0 h2 h64 hp ⟨_, rfl, ?_⟩) (args_list_sort _)))
 obtain ⟨e, he⟩ := sortedHeap_at (out := List.toArray (p.toList.map fun i => vs.getD i Value.none)) g
 refine wpAny_pure ⟨_, rfl, h h1.objs.size h1 _ e k1 (Nat.le_refl _) (fun b o x => ?_) he⟩
 have hb := Heap.lt_size x
 rw [sortedHeap_old (Nat.ne_of_lt hb) (by rw [size_push']; exact Nat.lt_succ_of_lt hb)]
 exact Heap.get?_push_of_some _ x
end
noncomputable def rSortedTs : List V -> Hp -> VK -> Prop := fun xs H Q => ∃ (d : Addr) (ps : List Addr) (S : List (List Int)) (k : Nat) (p : Array Nat), xs = [.ref d] /\ H d = some (.lst (ps.map V.ref)) /\ Paired (fun q (r : List Int) => H q = some (.tup (r.map V.int))) ps S /\ (∀ r ∈ S, r.length = k) /\ 0 < k /\ 2 <= S.length /\ S.length < 64 /\
 runT S.length (fun i j => lexB (S.getD i []) (S.getD j [])) (kas_sort S.length) = some p /\ p.size = S.length /\ (∀ i ∈ p.toList, i < S.length) /\ ∀ l, H l = none -> Q (.ref l) (upd H l (.lst ((p.toList.map fun i => ps.getD i 0).map V.ref)))
theorem call_sortedTs {X : Cx} : CallR X (.builtin "sorted") rSortedTs := by
 intro pins s σ H xs us Q I r h
 obtain ⟨d, ps, S, k, p, rfl, hd, hP, hk, hk0, h2, h64, hp, hpz0, hpi, q⟩ := h
 obtain ⟨u, rfl, rx⟩ := vals1 r
 cases rx
 obtain ⟨z, its, n, rv, hl, e⟩ := I.lstM hd
 have tup : ∀ {ps : List Addr} {S : List (List Int)} {its : List Value}, Paired (fun q (r : List Int) => H q = some (.tup (r.map V.int))) ps S -> Vals (ps.map V.ref) its -> Tups s.heap its S := by
  intro ps S its hP
  induction hP generalizing its with
  | nil => intro rv; cases rv; exact .nil
  | @cons q r ps S hq _ ih =>
   intro rv
   rw [List.map_cons] at rv
   cases rv with
   | cons r1 r2 =>
    cases r1
    refine .cons ?_ (ih r2)
    obtain ⟨_, us, ru, o, g, c, m, e⟩ := I.hok q _ hq
    exact ⟨q, o, us, m, rfl, g, c, congrArg Prod.fst e, intsAre_of ru⟩
 have ht := tup hP rv
 have hlen : its.length = S.length := Paired.length ht
 refine sorted_tups (d := d) (vs := its) ⟨_, e, rfl, n, rfl⟩ ht hk hk0 (by exact Om.l3 ‹_› ‹_›) (by exact Om.x1 ‹_› ‹_›) (by rw [hlen]; exact hp) fun l h1 h' e' k1 hl1 k2 he => ?_
 have I1 : Inv X pins σ H { s with heap := h1 } := I.kept (t' := s.toks) k1
 refine ⟨.ref l, _, I1.laid (t' := s.toks) (o := .lst ((p.toList.map fun i => ps.getD i 0).map V.ref)) k2 hl1 ?_, rfl, q _ (I1.hok.fresh hl1)⟩
 have hpz : p.toList.length <= sizeLine := by
  rw [Array.length_toList, hpz0, sizeLine_eq]
  exact Om.k138 h2 h64 hpz0 hlen
 refine ⟨by rw [List.length_map, List.length_map]; exact hpz, p.toList.map fun i => its.getD i Value.none, e', ?_, by simpa using he⟩
 have go : ∀ l : List Nat, (∀ i ∈ l, i < S.length) -> Vals ((l.map fun i => ps.getD i 0).map V.ref) (l.map fun i => its.getD i Value.none) := by
  intro l
  induction l with
  | nil => intro _; exact .nil
  | cons i l ih =>
   intro hl'
   refine .cons ?_ (ih fun j hj => hl' j (List.mem_cons_of_mem _ hj))
   have hi := hl' i List.mem_cons_self
   have hpl : ps.length = S.length := hP.length
   have hg : (ps.map V.ref)[i]? = some (.ref (ps.getD i 0)) := by
    rw [List.getElem?_map, List.getElem?_eq_getElem (by exact Om.a1 ‹_› ‹_›), List.getD_eq_getElem?_getD, List.getElem?_eq_getElem (by exact Om.a1 ‹_› ‹_›)]
    rfl
   obtain ⟨u, hu, ru⟩ := rv.get hg
   have : its.getD i Value.none = u := by rw [List.getD_eq_getElem?_getD, hu]; rfl
   show RelV (V.ref (ps.getD i 0)) (its.getD i Value.none)
   rw [this]
   exact ru
 exact go _ hpi
end L2
namespace L2
open PySem PySem.Spec PyProof.Rows
section
variable {prog : Program} {w : World} {A : Around} {E : Value -> Shared -> Prop} {s : Shared} {κ : Type} [DecidableEq κ] {knd : KeyKind prog w κ}
theorem dictAt_typeIs {d : Addr} {kvs : List (κ × Value)} {ep : Nat} (hd : s.heap.DictAt knd d kvs ep) : s.TypeIs (.ref d) "dict" := let ⟨o, es, ho, hc, _⟩ := hd; ⟨o, ho, hc.1⟩
theorem hint_dict {d : Addr} {Q : Bool -> Shared -> Prop} (hT : s.TypeIs (.ref d) "dict") (h : Q false s) : wpAny (model prog w) A (Builtin.List.listLengthHint (.ref d)) Q E s := by
 unfold Builtin.List.listLengthHint
 refine wpAny_bind (wpAny_specialOf hT F.slot_dict_len.lookup ?_)
 generalize hid : ("dict.__len__" : String) = id0
 wp_delta
 rw [show splitId id0 = some ("dict", "__len__") from by subst hid; decide +kernel]
 subst hid
 refine wpAny_bind (wpAny_isInstance (T := "dict") (b := true) hT (by rw [isSubtype_type]; kernel_rfl) ?_)
 refine wpAny_ite_split (fun hab => absurd hab (by decide)) (fun _ => ?_)
 refine wpAny_ite_split (fun _ => ?_) (fun hab => absurd (by decide +kernel) hab)
 exact wpAny_bind (wpAny_typeOf hT (wpAny_pure h))
theorem extend_dict {R : Result -> Shared -> Prop} {d : Addr} {kvs : List (κ × Value)} {ep : Nat} (hh : A.handled = none) (hsm : (d == sysModules) = false) (hd : s.heap.DictAt knd d kvs ep) (hlen : kvs.length <= 1000) (S : Addr) (res : Value) (c₀ : Nat) (hS : s.heap.get? S = some { cls := .type "list", data := .seq #[] c₀ })
  (hR : ∀ h' tk acc' c', (∀ b o, b ≠ S -> s.heap.get? b = some o -> h'.get? b = some o) -> h'.get? S = some { cls := .type "list", dict := none, data := .seq acc' c', slots := #[] } ->
   ItemsOf (fun i v => ∃ k x, kvs[i]? = some (k, x) /\ knd.is k v = true) acc' kvs.length -> R (.ok (.ret res)) { s with heap := h', toks := tk }) :
  wpAny (model prog w) A.in1 (Builtin.List.listExtendWith (.ref S) (.ref d) res)
   (fun fin s' => match fin with | .done f => R (.ok f) s' | .again c' => c'.quiet = true /\ codeAny (model prog w) A c' R s') (fun e s' => R (.error e) s') s := by
 have hT := dictAt_typeIs hd
 have hSd : S ≠ d := fun e => by
  obtain ⟨o, ho, hc⟩ := hT
  rw [e, ho] at hS
  cases hS
  exact absurd hc (by simp)
 have hSlt : S < s.heap.objs.size := Heap.lt_size hS
 have hSI : S ≠ s.heap.objs.size := Nat.ne_of_lt hSlt
 have hdlt : d < s.heap.objs.size := let ⟨o, ho, _⟩ := hT; Heap.lt_size ho
 have hSf : S ∉ [s.heap.objs.size, d] := fun hm => by
  rcases List.mem_cons.mp hm with e | hm
  ·exact hSI e
  ·exact hSd (List.mem_singleton.mp hm)
 have W := (Walks.dictKeys (prog := prog) (w := w) (A := A.in1) (knd := knd) hh s.heap.objs.size d (Nat.ne_of_lt hdlt) kvs ep).toS
 have key : ∀ (h : Heap) (c₁ tk : Nat), (h.IsKeyIter s.heap.objs.size d 0 kvs.length ep /\ h.DictAt knd d kvs ep) -> (∀ b o, b ≠ S -> s.heap.get? b = some o -> h.get? b = some o) ->
   h.get? S = some { cls := .type "list", data := .seq #[] c₁ } -> codeAny (model prog w) A (.builtin "list.extend.loop" ⟨[.ref S, .ref s.heap.objs.size, res], []⟩) R { s with heap := h, toks := tk } := by
  intro h c₁ tk hit hk hS₁
  refine codeAny_extend_loopS W (by rw [sizeLine_eq]; exact Om.b1 ‹_› rfl) S hSf res kvs.length 0 _ #[] c₁ rfl (Nat.zero_le _) hit hS₁ (ItemsOf.nil _) fun s' acc' c' hm hS' hacc => ?_
  rw [Moved.eq_with hm]
  refine hR s'.heap s'.toks acc' c' (fun b o hb e => hm.heap b o (fun hmem => ?_) (hk b o hb e)) hS' hacc
  rcases List.mem_cons.mp hmem with e' | hmem
  ·exact hb e'
  ·exact absurd (Heap.lt_size e) (by rw [List.mem_singleton.mp hmem]; exact Nat.lt_irrefl _)
 unfold Builtin.List.listExtendWith
 refine wpAny_bind (wpAny_typeOf hT ?_)
 have h1 : Builtin.List.listSameRef (.ref S) (.ref d) = false := by simp [Builtin.List.listSameRef, hSd]
 have h2 : (Value.type "dict" == Value.type "list") = false := by decide
 have h3 : (Value.type "dict" == Value.type "tuple") = false := by decide
 simp only [h1, h2, h3, Bool.or_false, Bool.false_eq_true, if_false]
 refine wpAny_bind (wpAny_pyIter_dict hsm hd ?_)
 refine wpAny_bind (wpAny_holding (hint_dict ?_ ?_))
 ·obtain ⟨o, ho, hc⟩ := hT
  exact ⟨o, Heap.get?_push_of_some _ ho, hc⟩
 have hit₁ : (s.heap.push { cls := .type "dict_keyiterator", data := .fields #[.ref d, .int 0 0, .int kvs.length 0, .int ep 0] }).IsKeyIter s.heap.objs.size d 0 kvs.length ep := ⟨_, Heap.get?_push_size _ rfl, rfl, rfl⟩
 have hd₁ : (s.heap.push { cls := .type "dict_keyiterator", data := .fields #[.ref d, .int 0 0, .int kvs.length 0, .int ep 0] }).DictAt knd d kvs ep := hd.at' fun o e => Heap.get?_push_of_some _ e
 have hS₁ := Heap.get?_push_of_some { cls := .type "dict_keyiterator", data := .fields #[.ref d, .int 0 0, .int kvs.length 0, .int ep 0] } hS
 refine wpAny_ite_split (fun _ => ?_) (fun hab => absurd (by decide +kernel) hab)
 refine wpAny_bind (wpAny_rule ?_)
 refine wpAny_bind ?_
 show wpAny _ _ (updateSeq S (·.push .none) >>= fun _ => updateSeq S (·.pop)) _ _ _
 refine wpAny_bind (wpAny_updateSeq hS₁ rfl ?_)
 have hS₂ := Heap.get?_update_self (Obj.mapSeq (·.push Value.none)) hS₁ rfl
 refine wpAny_updateSeq (hz := by seq_fits) hS₂ rfl ?_
 have hS₃ := Heap.get?_update_self (Obj.mapSeq (·.pop)) hS₂ rfl
 refine wpAny_pure ⟨plainId_quiet F.plain_extend_loop _, key _ _ _ ⟨hit₁.at fun o e => ?_, hd₁.at' fun o e => ?_⟩ (fun b o hb e => ?_) hS₃⟩
 ·exact (Heap.get?_update_other _ _ hSI).trans ((Heap.get?_update_other _ _ hSI).trans e)
 ·exact (Heap.get?_update_other _ _ hSd).trans ((Heap.get?_update_other _ _ hSd).trans e)
 ·exact (Heap.get?_update_other _ _ (Ne.symm hb)).trans ((Heap.get?_update_other _ _ (Ne.symm hb)).trans (Heap.get?_push_of_some _ e))
theorem list_init_dict {R : Result -> Shared -> Prop} {d : Addr} {kvs : List (κ × Value)} {ep : Nat} (hh : A.handled = none) (hsm : (d == sysModules) = false) (hd : s.heap.DictAt knd d kvs ep) (hlen : kvs.length <= 1000) (S : Addr) (hS : s.heap.get? S = some { cls := .type "list", data := .seq #[] })
  (hR : ∀ h' tk acc' c', (∀ b o, b ≠ S -> s.heap.get? b = some o -> h'.get? b = some o) -> h'.get? S = some { cls := .type "list", dict := none, data := .seq acc' c', slots := #[] } ->
   ItemsOf (fun i v => ∃ k x, kvs[i]? = some (k, x) /\ knd.is k v = true) acc' kvs.length -> R (.ok (.ret .none)) { s with heap := h', toks := tk }) :
  wpAny (model prog w) A.in1 (Builtin.«list.__init__» ⟨[.ref S, .ref d], []⟩)
   (fun fin s' => match fin with | .done f => R (.ok f) s' | .again c' => c'.quiet = true /\ codeAny (model prog w) A c' R s') (fun e s' => R (.error e) s') s := by
 have hSd : S ≠ d := fun e => by
  obtain ⟨o, ho, hc⟩ := dictAt_typeIs hd
  rw [e, ho] at hS
  cases hS
  exact absurd hc (by simp)
 show wpAny _ _ (do let old <- Builtin.List.listItems (.ref S); Builtin.List.listUpdate (.ref S) (fun _ => #[]); letGo old.toList.reverse; Builtin.List.listExtendWith (.ref S) (.ref d) .none) _ _ s
 refine wpAny_bind ?_
 unfold Builtin.List.listItems
 refine wpAny_bind (wpAny_seqItems hS rfl (wpAny_pure ?_))
 show wpAny _ _ (updateSeq S (fun _ => #[]) >>= fun _ => letGo (#[] : Array Value).toList.reverse >>= fun _ => Builtin.List.listExtendWith (.ref S) (.ref d) .none) _ _ s
 refine wpAny_bind (wpAny_updateSeq hS rfl ?_)
 have hS₂ := Heap.get?_update_self (Obj.mapSeq (fun _ => (#[] : Array Value))) hS rfl
 have oth : ∀ b o, b ≠ S -> s.heap.get? b = some o -> (s.heap.update S (Obj.mapSeq (fun _ => (#[] : Array Value)))).get? b = some o :=
  fun b o hb e => (Heap.get?_update_other _ _ (Ne.symm hb)).trans e
 refine wpAny_bind (wpAny_letGo ?_)
 refine extend_dict (s := { s with heap := s.heap.update S (Obj.mapSeq (fun _ => (#[] : Array Value))) }) hh hsm (hd.at' fun o e => oth d o (Ne.symm hSd) e) hlen S .none _ hS₂ fun h' tk acc' c' hk hS' hacc => ?_
 exact hR h' tk acc' c' (fun b o hb e => hk b o hb (oth b o hb e)) hS' hacc
theorem call_list_dict {Q : Value -> Shared -> Prop} {d : Addr} {kvs : List (κ × Value)} {ep : Nat} (hh : A.handled = none) (hsm : (d == sysModules) = false) (hd : s.heap.DictAt knd d kvs ep) (hlen : kvs.length <= 1000)
  (hQ : ∀ h' tk acc' c', (∀ b o, s.heap.get? b = some o -> h'.get? b = some o) ->
   h'.get? s.heap.objs.size = some { cls := .type "list", dict := none, data := .seq acc' c', slots := #[] } -> ItemsOf (fun i v => ∃ k x, kvs[i]? = some (k, x) /\ knd.is k v = true) acc' kvs.length -> Q (.ref s.heap.objs.size) { s with heap := h', toks := tk }) :
  wpAny (model prog w) A (call (.type "list") [.ref d]) Q E s := by
 refine callType_codes (Q₁ := fun obj s₁ => obj = .ref s.heap.objs.size /\ s₁ = { s with heap := s.heap.push { cls := .type "list", data := .seq #[] } }) F.called_list (F.typeCall_list_1 _) F.entry_list_init
  (code_list_new _ ⟨rfl, rfl⟩) fun obj s₁ h₁ => ?_
 obtain ⟨rfl, rfl⟩ := h₁
 have hS : (s.heap.push { cls := .type "list", data := .seq #[] }).get? s.heap.objs.size = some { cls := .type "list", data := .seq #[] } := Heap.get?_push_size _ rfl
 refine ⟨⟨_, hS, rfl⟩, F.args_list_init_2 _ _, list_init_dict (A := A.in1) (s := { s with heap := s.heap.push { cls := .type "list", data := .seq #[] } }) hh hsm (hd.at' fun o e => Heap.get?_push_of_some _ e) hlen _ hS fun h' tk acc' c' hk hS' hacc => ?_⟩
 exact ⟨rfl, hQ h' tk acc' c' (fun b o e => hk b o (Nat.ne_of_lt (Heap.lt_size e)) (Heap.get?_push_of_some _ e)) hS' hacc⟩
end
theorem vals_at : ∀ (xs : List V) (its : List Value), xs.length = its.length -> (∀ (j : Nat) x v, xs[j]? = some x -> its[j]? = some v -> RelV x v) -> Vals xs its
 | [], [], _, _ => .nil
 | [], _ :: _, h, _ => by cases h
 | _ :: _, [], h, _ => by cases h
 | x :: xs, v :: its, hl, h => .cons (h 0 x v rfl rfl) (vals_at xs its (Nat.succ.inj hl) fun j y u e1 e2 => h (j + 1) y u (by simpa using e1) (by simpa using e2))
noncomputable def rListD : List V -> Hp -> VK -> Prop := fun xs H Q => ∃ (a : Addr) (kvs : List (Key × V)), xs = [.ref a] /\ H a = some (.dK kvs) /\ kvs.length <= 1000 /\ ∀ l, H l = none -> Q (.ref l) (upd H l (.lst (kvs.map fun p => kV p.1)))
theorem call_listD {X : Cx} (hc : X.calm = true) : CallR X (.type "list") rListD := by
 intro pins s σ H xs us Q I r h
 obtain ⟨a, kvs, rfl, ha, hn, q⟩ := h
 obtain ⟨u, rfl, rx⟩ := vals1 r
 cases rx
 obtain ⟨z, hsm, vs, rel, dd⟩ := (show ObjOk X.prog X.w H s.heap a (.dK kvs) from I.hok a _ ha)
 obtain ⟨ep, da⟩ := dd.dictAt
 have hl : kvs.length = vs.length := KV.length rel
 refine call_list_dict (knd := mixKind X.prog X.w) (I.ok.hd hc) hsm da (by exact Om.k137 hn hl) fun h' tk acc c' kp e' hi => ?_
 refine ⟨.ref s.heap.objs.size, _, I.laid (t' := tk) kp (Nat.le_refl _) (show ObjOk X.prog X.w _ h' _ (.lst (kvs.map fun p => kV p.1)) from ⟨by rw [List.length_map]; exact small6 hn, acc.toList, c', ?_, by rw [e']⟩), rfl, q _ (I.hok.fresh (Nat.le_refl _))⟩
 refine vals_at _ _ (by have := hi.1; have e : acc.toList.length = acc.size := Array.length_toList; rw [List.length_map]; omega) fun j x v e1 e2 => ?_
 rw [List.getElem?_map] at e1
 cases hkj : kvs[j]? with
 | none => rw [hkj] at e1; cases e1
 | some p =>
  rw [hkj] at e1
  cases e1
  obtain ⟨k, y, hy, hk⟩ := hi.2 j v (by simpa using e2)
  obtain ⟨q', hq', e', _⟩ := Paired.getL rel hkj
  rw [hy] at hq'
  cases hq'
  have e3 : p.1 = k := e'
  show RelV (kV p.1) v
  rw [e3]
  exact keyIs_rel hk
end L2
namespace L2
open PySem PySem.Spec PyProof.Rows
noncomputable def ins (x : Nat) : List Nat -> List Nat
 | [] => [x]
 | y :: l => if x < y then x :: y :: l else y :: ins x l
noncomputable def posI (x : Nat) : List Nat -> Nat
 | [] => 0
 | y :: l => if x < y then 0 else posI x l + 1
noncomputable def tabI (led : Bool) (ns : List Nat) (n : Nat) : SetTable := { tab led ns with place := (ins n ns).toArray }
noncomputable def tabAny (led : Bool) (ns : List Nat) (n : Nat) : Prop :=
 (tab led ns).freeSlot (n : Int) = some (n, false) /\ (tab led ns).put n = (tabI led ns n, posI n ns) /\ (tabI led ns n).fits (ns.length + 1) = true /\ (tab led (ins n ns)).fits (ns.length + 1) = true /\ hashInt (n : Int) = (n : Int) /\
 (if (tabI led ns n).tooFull = true then (tabI led ns n).relaid ((ins n ns).map fun (k : Nat) => (k : Int)).toArray (SetTable.grown (ns.length + 1)) = some (tab led (ins n ns), (List.range (ns.length + 1)).toArray) else tabI led ns n = tab led (ins n ns))
noncomputable instance tabAnyDec (led : Bool) (ns : List Nat) (n : Nat) : Decidable (tabAny led ns n) := by unfold tabAny; infer_instance
theorem tabAny_all : ∀ led : Bool, ∀ ns ∈ subs (List.range' 0 6), ∀ n, n < 6 -> n ∉ ns -> tabAny led ns n := by decide +kernel
theorem mem_ins {x y : Nat} : ∀ {l : List Nat}, y ∈ ins x l ↔ y = x \/ y ∈ l
 | [] => by simp [ins]
 | z :: l => by
  unfold ins
  split
  ·simp
  ·rw [List.mem_cons, mem_ins, List.mem_cons]
   constructor
   ·rintro (h | h | h)
    ·exact .inr (.inl h)
    ·exact .inl h
    ·exact .inr (.inr h)
   ·rintro (h | h | h)
    ·exact .inr (.inl h)
    ·exact .inl h
    ·exact .inr (.inr h)
theorem ins_rise {x : Nat} : ∀ {l : List Nat}, l.Pairwise (· < ·) -> x ∉ l -> (ins x l).Pairwise (· < ·)
 | [], _, _ => by simp [ins]
 | z :: l, hp, hx => by
  have h := List.pairwise_cons.mp hp
  unfold ins
  split
  ·next hlt =>
   refine List.pairwise_cons.mpr ⟨fun y hy => ?_, hp⟩
   rcases List.mem_cons.mp hy with rfl | hy
   ·exact hlt
   ·exact Nat.lt_trans hlt (h.1 y hy)
  ·next hge =>
   refine List.pairwise_cons.mpr ⟨fun y hy => ?_, ins_rise h.2 fun z => hx (List.mem_cons_of_mem _ z)⟩
   rcases mem_ins.mp hy with rfl | hy
   ·have : y ≠ z := fun e => hx (by rw [e]; exact List.mem_cons_self)
    omega
   ·exact h.1 y hy
theorem pos_le (x : Nat) : ∀ l : List Nat, posI x l <= l.length
 | [] => Nat.le_refl _
 | z :: l => by
  unfold posI
  split
  ·exact Nat.zero_le _
  ·exact Nat.succ_le_succ (pos_le x l)
theorem sent_ins {e : Int × Value} {n : Nat} (he : SEnt e n) : ∀ {l : List (Int × Value)} {ns : List Nat}, Paired SEnt l ns -> Paired SEnt (l.take (posI n ns) ++ e :: l.drop (posI n ns)) (ins n ns)
 | [], [], .nil => .cons he .nil
 | x :: l, y :: ns, .cons h t => by
  unfold posI ins
  split
  ·exact .cons he (.cons h t)
  ·rw [List.take_succ_cons, List.drop_succ_cons]
   exact .cons h (sent_ins he t)
theorem insertAt_list {α : Type} (xs : Array α) (p : Nat) (x : α) (h : p <= xs.size) : (SetTable.insertAt xs p x).toList = xs.toList.take p ++ x :: xs.toList.drop p := by
 unfold SetTable.insertAt
 have e1 : (xs.extract 0 p).toList = xs.toList.take p := by simp
 have e2 : (xs.extract p xs.size).toList = xs.toList.drop p := by
  rw [Array.toList_extract]
  simp [List.extract]
  exact List.take_of_length_le (by rw [List.length_drop, Array.length_toList]; exact Nat.le_refl _)
 rw [Array.toList_append, Array.toList_push, e1, e2, List.append_assoc]
 rfl
theorem insertAt_size {α : Type} (xs : Array α) (p : Nat) (x : α) (h : p <= xs.size) : (SetTable.insertAt xs p x).size = xs.size + 1 := by
 rw [<- Array.length_toList, insertAt_list xs p x h, List.length_append, List.length_cons, List.length_take, List.length_drop, Array.length_toList]
 exact Om.k136 h
theorem lay_any {led : Bool} {ns : List Nat} {n : Nat} {es : Array (Int × Value)} {x : Value} (tn : tabAny led ns n) (hs : es.size = ns.length) :
  layNew (tab led ns) es (n : Int) x = (SetTable.insertAt es (posI n ns) ((n : Int), x), tabI led ns n, false, false) := by
 obtain ⟨h1, h2, h3, _⟩ := tn
 unfold layNew
 rw [h1]
 dsimp only
 rw [h2]
 dsimp only
 have hz : (SetTable.insertAt es (posI n ns) ((n : Int), x)).size = ns.length + 1 := by rw [insertAt_size _ _ _ (by rw [hs]; exact pos_le n ns), hs]
 unfold SetTable.orStandIn
 rw [hz, h3]
 rfl
section
variable {prog : Program} {w : World} {A : Around} {E : Value -> Shared -> Prop} {s : Shared}
noncomputable def addS (ns : List Nat) (n : Nat) : List Nat := if n ∈ ns then ns else ins n ns
structure Set6 (ns : List Nat) : Prop where
 rise : ns.Pairwise (· < ·)
 lt : ∀ x ∈ ns, x < 6
theorem Set6.add {ns : List Nat} (h : Set6 ns) {n : Nat} (hn : n < 6) : Set6 (addS ns n) := by
 unfold addS
 split
 ·exact h
 ·next hx =>
  refine ⟨ins_rise h.rise hx, fun x hx' => ?_⟩
  rcases mem_ins.mp hx' with rfl | z
  ·exact hn
  ·exact h.lt x z
theorem set_any {a : Addr} {led : Bool} {ns : List Nat} {n : Nat} {tk : Tok} {Q : Bool -> Shared -> Prop} (hS : SetR s.heap a led ns) (h6 : Set6 ns) (hn : n < 6)
  (h : ∀ b h', Heap.SameBut a s.heap h' -> SetR h' a led (addS ns n) -> Q b { s with heap := h' }) :
  wpAny (model prog w) A (setAddHashed a (.int (n : Int) tk) (hashInt (n : Int))) Q E s := by
 have sub6 := rise_sub 6 0 ns h6.rise fun x hx => ⟨Nat.zero_le _, by have := h6.lt x hx; assumption⟩
 have hlen : ns.length <= 6 := by
  have := sub6.length_le
  rw [List.length_range'] at this
  exact this
 have hash6 : ∀ m, m < 6 -> hashInt ((m : Nat) : Int) = (m : Int) := by decide +kernel
 have hhash : ∀ m ∈ ns, hashInt (m : Int) = (m : Int) := fun m hm => hash6 m (h6.lt m hm)
 obtain ⟨es, ep, ho, hp⟩ := id hS
 have hz : es.size = ns.length := by rw [<- Array.length_toList, hp.length]
 have hfit : (tab led ns).fits es.size = true := by
  rw [hz]
  exact (tab_rises led h6.rise fun x hx => Nat.lt_trans (h6.lt x hx) (by decide)).1
 have hel : ElemsOf (intKind prog w) es.toList := elems_sent hp hhash
 have hsb : es.size < scanBound := by
  have : scanBound = 4096 := rfl
  omega
 unfold setAddHashed setAddHashedIn
 refine wpAny_holding (wpAny_bind (wpAny_setState_of ho rfl hfit ?_))
 dsimp only
 rw [byScan_of (knd := intKind prog w) rfl hsb hel]
 simp only [↓reduceIte]
 unfold setAddByScan
 refine wpAny_bind (wpAny_bind (wpAny_rule (wpAny_bind ?_)))
 refine wpAny_setScan_of (knd := intKind prog w) (k := (n : Int)) (by simp [intKind, Value.isInt]) ho rfl hfit hel ?_
 by_cases hmem : n ∈ ns
 ·have e0 : addS ns n = ns := by unfold addS; rw [if_pos hmem]
  rw [e0] at h
  cases hf : es.toList.findIdx? (fun e => (intKind prog w).is (n : Int) e.2) with
  | none =>
   rw [List.findIdx?_eq_none_iff] at hf
   obtain ⟨i, hi, e⟩ := List.getElem_of_mem hmem
   obtain ⟨x, hx, t, ex⟩ := Paired.getR hp (List.getElem?_eq_getElem hi)
   have := hf x (List.mem_of_getElem? hx)
   rw [ex, e] at this
   have t2 : (intKind prog w).is (n : Int) (Value.int (n : Int) t) = true := by simp [intKind, Value.isInt]
   rw [t2] at this
   cases this
  | some j =>
   dsimp only
   exact wpAny_pure (wpAny_pure (h false s.heap (Heap.SameBut.refl _ _) hS))
 have tn : tabAny led ns n := tabAny_all led ns (subs_of sub6) n hn hmem
 have e0 : addS ns n = ins n ns := by unfold addS; rw [if_neg hmem]
 rw [e0] at h
 have hno : es.toList.findIdx? (fun e => (intKind prog w).is (n : Int) e.2) = none := by
  rw [List.findIdx?_eq_none_iff]
  intro e he
  obtain ⟨m, hm, t, rfl⟩ := sent_mem hp e he
  have hne : n ≠ m := fun z => hmem (z ▸ hm)
  show Value.isInt (n : Int) (.int (m : Int) t) = false
  simp [Value.isInt]
  exact Om.k135 hne
 rw [hno]
 dsimp only
 rw [tn.2.2.2.2.1, lay_any tn hz]
 dsimp only
 refine wpAny_bind (wpAny_pure ?_)
 rw [show (tabI led ns n).plain = true from rfl, if_pos rfl]
 refine wpAny_bind ?_
 rw [hashByValue_scannable 8 (x := .int (n : Int) tk) rfl]
 refine wpAny_pure ?_
 rw [if_pos (show plainKind (.int (n : Int) tk) = true from rfl)]
 have hpl : posI n ns <= es.size := by rw [hz]; exact pos_le n ns
 have hp1 : Paired SEnt (SetTable.insertAt es (posI n ns) ((n : Int), .int (n : Int) tk)).toList (ins n ns) := by
  rw [insertAt_list _ _ _ hpl]
  exact sent_ins ⟨tk, rfl⟩ hp
 have hz1 : (SetTable.insertAt es (posI n ns) ((n : Int), Value.int (n : Int) tk)).size = ns.length + 1 := by rw [insertAt_size _ _ _ hpl, hz]
 generalize SetTable.insertAt es (posI n ns) ((n : Int), Value.int (n : Int) tk) = es1 at hp1 hz1 ⊢
 have hline : es1.size <= sizeLine := by rw [hz1, sizeLine_eq]; exact Om.k134 hlen hz hz1
 refine wpAny_bind (wpAny_storeSet_of (ep := ep) ho rfl ?_ hline)
 have upd1 : ∀ (hp0 : Heap) (e0 e1 : Array (Int × Value)) (t0 t1 : SetTable) (p0 : Nat), hp0.get? a = some (setObj e0 p0 t0) -> (hp0.update a (Obj.putSet e1 t1)).get? a = some (setObj e1 (p0 + 1) t1) := by
  intro hp0 e0 e1 t0 t1 p0 hg
  have := Heap.get?_update_self (Obj.putSet e1 t1) hg (by rw [putSet_of e1 t1 rfl]; rfl)
  rw [putSet_of e1 t1 rfl] at this
  exact this
 have g1 := upd1 s.heap es es1 (tab led ns) (tabI led ns n) ep ho
 have sb1 := Heap.SameBut.update s.heap a (Obj.putSet es1 (tabI led ns n))
 have last := tn.2.2.2.2.2
 by_cases hfull : (tabI led ns n).tooFull = true
 ·rw [if_pos hfull] at last
  have er : relayAll (tabI led ns n) es1 (SetTable.grown es1.size) = (es1, tab led (ins n ns), false) := by
   have hz2 : (ns.length + 1) = es1.size := hz1.symm
   refine relay_all ?_ (by rw [hz1]; exact tn.2.2.2.1)
   have : es1.map (·.1) = ((ins n ns).map fun (k : Nat) => (k : Int)).toArray := by
    apply Array.ext'
    rw [Array.toList_map, sent_fst hp1]
   rw [this, hz1]
   exact last
  rw [hfull]
  simp only [Bool.not_false, Bool.true_and, ↓reduceIte]
  rw [er]
  dsimp only
  refine wpAny_bind (wpAny_pure ?_)
  refine wpAny_bind (wpAny_storeSet_of g1 rfl ?_ hline)
  refine wpAny_pure (wpAny_pure ?_)
  exact h _ _ (sb1.trans (Heap.SameBut.update _ a _)) ⟨_, _, upd1 _ _ _ _ _ _ g1, hp1⟩
 ·rw [if_neg hfull] at last
  rw [if_neg (by simpa using hfull)]
  refine wpAny_pure (wpAny_pure ?_)
  rw [last] at g1 sb1 ⊢
  exact h _ _ sb1 ⟨_, _, g1, hp1⟩
end
end L2
namespace L2
open PySem PySem.Spec PyProof.Rows
noncomputable def allS (ns : List Nat) : List Nat := ns.foldl addS []
theorem allS_six {ns : List Nat} (h : ∀ x ∈ ns, x < 6) : Set6 (allS ns) := by
 have go : ∀ (l : List Nat) (acc : List Nat), Set6 acc -> (∀ x ∈ l, x < 6) -> Set6 (l.foldl addS acc) := by
  intro l
  induction l with
  | nil => intro acc ha _; exact ha
  | cons x l ih =>
   intro acc ha hl
   rw [List.foldl_cons]
   exact ih _ (ha.add (hl x List.mem_cons_self)) fun y hy => hl y (List.mem_cons_of_mem _ hy)
 exact go ns [] ⟨List.Pairwise.nil, fun x hx => by cases hx⟩ h
theorem mem_addS {ns : List Nat} {n x : Nat} : x ∈ addS ns n ↔ x = n \/ x ∈ ns := by
 unfold addS
 split
 ·next h => exact ⟨.inr, fun z => z.elim (fun e => e ▸ h) id⟩
 ·exact mem_ins
theorem mem_allS {ns : List Nat} {x : Nat} : x ∈ allS ns ↔ x ∈ ns := by
 have go : ∀ (l : List Nat) (acc : List Nat), x ∈ l.foldl addS acc ↔ x ∈ l \/ x ∈ acc := by
  intro l
  induction l with
  | nil => intro acc; simp
  | cons y l ih =>
   intro acc
   rw [List.foldl_cons, ih, mem_addS, List.mem_cons]
   constructor
   ·rintro (h | h | h)
    ·exact .inl (.inr h)
    ·exact .inl (.inl h)
    ·exact .inr h
   ·rintro ((h | h) | h)
    ·exact .inr (.inl h)
    ·exact .inl h
    ·exact .inr (.inr h)
 have := go ns []
 unfold allS
 rw [this]
 simp
theorem allS_take {ns : List Nat} {i : Nat} (h : i < ns.length) : allS (ns.take (i + 1)) = addS (allS (ns.take i)) ns[i] := by
 unfold allS
 rw [take_succ_rise h, List.foldl_append]
 rfl
section
variable {prog : Program} {w : World} {A : Around} {R : Result -> Shared -> Prop} {I : Addr} {fp wr : List Addr} {G : Array GenState -> Array GenState -> Prop} {P : Nat -> Value -> Prop} {St : Nat -> Shared -> Prop}
theorem set_loopG {ns : List Nat} (W : WalksS prog w A.in1 I fp wr G ns.length P St) (S : Addr) (hf : S ∉ fp) (led : Bool)
  (hv : ∀ i v, P i v -> ∃ t, v = .int ((ns.getD i 0 : Nat) : Int) t) (h6 : ∀ x ∈ ns, x < 6) :
  ∀ (k i : Nat) (s : Shared), i + k = ns.length -> St i s -> SetR s.heap S led (allS (ns.take i)) ->
   (∀ s', Moved (S :: wr) G s s' -> SetR s'.heap S led (allS ns) -> R (.ok (.ret .none)) s') ->
   codeAny (model prog w) A (.builtin "set.update.loop" ⟨[.ref S, .ref I], []⟩) R s := by
 have hw : S ∉ wr := fun x => hf (W.sub _ x)
 have more : ∀ b ∈ wr, b ∈ S :: wr := fun b x => List.mem_cons_of_mem _ x
 intro k
 induction k with
 | zero =>
  intro i s e st hS q
  have e : i = ns.length := by exact Om.k133 e
  subst e
  rw [List.take_length] at hS
  refine codeAny_builtin PyProof.Rows.F.entry_set_update_loop ?_
  rw [Around.under_plainId PyProof.Rows.F.plain_set_update_loop _]
  refine wpAny_bind (W.done s _ _ st fun s' m => ?_)
  exact wpAny_pure (q s' (m.mono more) (hS.at fun o e => m.heap S o hw e))
 | succ k ih =>
  intro i s e st hS q
  have hi : i < ns.length := by exact Om.k128 e
  refine codeAny_builtin PyProof.Rows.F.entry_set_update_loop ?_
  rw [Around.under_plainId PyProof.Rows.F.plain_set_update_loop _]
  refine wpAny_bind (W.item i s _ _ hi st fun v s1 hP st1 m => ?_)
  obtain ⟨t, rfl⟩ := hv i v hP
  have en : ns.getD i 0 = ns[i] := by rw [List.getD_eq_getElem?_getD, List.getElem?_eq_getElem hi]; rfl
  rw [en]
  have hS1 : SetR s1.heap S led (allS (ns.take i)) := hS.at fun o e => m.heap S o hw e
  refine wpAny_bind (m := holding _ (setAdd S _)) (wpAny_holding ?_)
  unfold setAdd
  refine wpAny_holding (wpAny_bind (wpAny_pyHash_int ?_))
  refine set_any (s := { s1 with toks := s1.toks + 1 }) hS1 (allS_six fun x hx => h6 x (List.mem_of_mem_take hx)) (h6 _ (List.getElem_mem hi)) fun b h' sb hS2 => ?_
  rw [<- allS_take hi] at hS2
  refine wpAny_pure ⟨plainId_quiet PyProof.Rows.F.plain_set_update_loop _, ih (i + 1) _ (by exact Om.k132 e hi) (W.frame _ s1 _ _ st1 (Nat.le_succ _) fun b hb o e => ?_) hS2 fun s3 m3 hS3 => ?_⟩
  ·rw [sb.2 b fun x : b = S => hf (x ▸ hb)]; exact e
  ·refine q s3 (Moved.trans W.gtrans ((m.mono more).then_heap (Nat.le_succ _) fun b o hb e => ?_) m3) hS3
   rw [sb.2 b fun x : b = S => hb (x ▸ List.mem_cons_self)]; exact e
end
section
variable {prog : Program} {w : World} {A : Around} {E : Value -> Shared -> Prop} {s : Shared}
theorem call_setG {l : Addr} {items : Array Value} {ns : List Nat} {Q : Value -> Shared -> Prop} (hh : A.handled = none) (hl : s.heap.IsList l items) (hi : IntsAre items.toList (ns.map fun (k : Nat) => (k : Int)))
  (h6 : ∀ x ∈ ns, x < 6)
  (h : ∀ (h' : Heap) (tk : Nat), SetR h' s.heap.objs.size (!byText w) (allS ns) -> (∀ b o, s.heap.get? b = some o -> h'.get? b = some o) -> Q (.ref s.heap.objs.size) { s with heap := h', toks := tk }) :
  wpAny (model prog w) A (call (.type "set") [.ref l]) Q E s := by
 refine set_made (Q1 := fun obj s1 => obj = .ref s.heap.objs.size /\ s1 = { s with heap := s.heap.push (setObj #[] 0 (tab (!byText w) [])) }) (set_new _ ⟨rfl, rfl⟩) fun obj s1 e1 => ?_
 obtain ⟨rfl, rfl⟩ := e1
 have hS : (s.heap.push (setObj #[] 0 (tab (!byText w) []))).get? s.heap.objs.size = some (setObj #[] 0 (tab (!byText w) [])) := Heap.get?_push_size _ rfl
 refine ⟨⟨_, hS, rfl⟩, ?_⟩
 have hz : items.size = ns.length := by
  have := IntsAre.length hi
  simpa using this
 obtain ⟨ol, gl, cl, nl, dl⟩ := id hl
 have hlt : l < s.heap.objs.size := Heap.lt_size gl
 obtain ⟨ocls, odict, odata, oslots⟩ := ol
 simp only at cl dl
 subst cl
 subst dl
 have gl1 : (s.heap.push (setObj #[] 0 (tab (!byText w) []))).get? l = some { cls := .type "list", dict := odict, data := .seq items nl, slots := oslots } := Heap.get?_push_of_some _ gl
 have n1 := PySem.F.sub_list_set
 have n2 := PySem.F.sub_list_frozenset
 have n3 : (Value.type "list" == Value.type "dict") = false := by decide
 have hl1 : (s.heap.push (setObj #[] 0 (tab (!byText w) []))).IsList l items := ⟨_, gl1, rfl, nl, rfl⟩
 unfold Builtin.«set.__init__» noKeywords Builtin.Frozenset.updateFrom
 generalize hPI : pyIter = PI
 wp_walk
 subst hPI
 refine wpAny_pyIter_list hl1 (wpAny_bind (wpAny_runValue ?_))
 have hz2 : (s.heap.push (setObj #[] 0 (tab (!byText w) []))).objs.size = s.heap.objs.size + 1 := size_push' _ _
 have hh3 : A.in1.in1.in1.handled = none := by simp [hh]
 have hne : l ≠ (s.heap.push (setObj #[] 0 (tab (!byText w) []))).objs.size := by rw [hz2]; exact Nat.ne_of_lt (Nat.lt_succ_of_lt hlt)
 have hval : ∀ (i : Nat) (v : Value), items[i]? = some v -> ∃ t, v = .int ((ns.getD i 0 : Nat) : Int) t := fun i v hv => by
  obtain ⟨t, e⟩ := IntsAre.int_at hi i v (by rw [Array.getElem?_toList]; exact hv)
  refine ⟨t, e.trans ?_⟩
  rw [List.getD_eq_getElem?_getD, List.getD_eq_getElem?_getD, List.getElem?_map]
  cases ns[i]? <;> rfl
 have W := (Walks.list (prog := prog) (w := w) hh3 _ l hne items).toS
 rw [hz] at W
 refine set_loopG (ns := ns) W s.heap.objs.size (by rw [hz2]; simp only [List.mem_cons, List.not_mem_nil, or_false, not_or]; exact ⟨Nat.ne_of_lt (Nat.lt_succ_self _), Nat.ne_of_gt hlt⟩) (!byText w) hval h6 ns.length 0 _ (by exact Om.k109 ) ⟨⟨_, Heap.get?_push_size _ rfl, rfl, rfl⟩, hl1.push _⟩ ⟨#[], 0, Heap.get?_push_of_some _ hS, .nil⟩ fun s' m hS' => ?_
 obtain ⟨h', g', d', tk', os'⟩ := s'
 have eg : g' = s.gens := m.gens
 have ed : d' = s.drawn := m.drawn
 have eo : os' = s.os := m.os
 subst eg; subst ed; subst eo
 refine wpAny_pure (wpAny_pure ⟨rfl, h h' tk' hS' fun b o e => ?_⟩)
 have hb := Heap.lt_size e
 refine m.heap b o ?_ (Heap.get?_push_of_some _ (Heap.get?_push_of_some _ e))
 rw [hz2]
 simp only [List.mem_cons, List.not_mem_nil, or_false, not_or]
 exact ⟨Nat.ne_of_lt hb, Nat.ne_of_lt (Nat.lt_succ_of_lt hb)⟩
end
noncomputable def rSetG (w : World) (K : PySem.W.Frag) : List V -> Hp -> VK -> Prop := fun xs H Q => ∃ (p : Addr) (ns : List Nat), xs = [.ref p] /\ SqL K H p ((zs ns).map V.int) /\ (∀ x ∈ ns, x < 6) /\ ∀ l, H l = none -> Q (.ref l) (upd H l (setX w l (allS ns)))
theorem call_setGr {X : Cx} (w : World) (K : PySem.W.Frag) (hc : X.calm = true) (hw : X.w = w := by rfl) (hK : X.K = K := by rfl) : CallR X (.type "set") (rSetG w K) := by
 subst hw hK
 intro pins s σ H xs us Q I r h
 obtain ⟨p, ns, rfl, hq, h6, q⟩ := h
 obtain ⟨u, rfl, rx⟩ := vals1 r
 cases rx
 obtain ⟨its, rv, ht, hz⟩ := I.list hq
 refine call_setG (I.ok.hd hc) ht.isList (ns := ns) (by simpa [zs] using intsAre_of rv) h6 fun h' tk hS keep => ?_
 refine ⟨.ref s.heap.objs.size, _, I.laid (t' := tk) (o := setX X.w s.heap.objs.size (allS ns)) keep (Nat.le_refl _) ?_, rfl, q _ (I.hok.fresh (Nat.le_refl _))⟩
 refine ⟨hS, ?_, fun h1 h2 a b => a.at b⟩
 obtain ⟨es, ep, ho, _⟩ := hS
 exact ⟨_, ho⟩
theorem Set6.small {ns : List Nat} (h : Set6 ns) : Small8 ns := ⟨h.rise, fun x hx => Nat.lt_trans (h.lt x hx) (by decide)⟩
end L2
namespace L2
open PySem PySem.Spec PyProof.Rows
section
variable {prog : Program} {w : World} {A : Around} {E : Value -> Shared -> Prop} {s : Shared} {R : Result -> Shared -> Prop}
end
end L2
namespace My
noncomputable abbrev HS := List (Int × Nat)
noncomputable def look (hs : HS) (x : Int) : Option Nat := (hs.find? fun p => decide (p.1 = x)).map (·.2)
noncomputable def putH (hs : HS) (x : Int) (w : Nat) : HS := if (hs.any fun p => decide (p.1 = x)) = true then hs.map (fun p => if p.1 = x then (p.1, w) else p) else hs ++ [(x, w)]
noncomputable def keysH (hs : HS) : List Int := hs.map (·.1)
theorem look_nil (x : Int) : look [] x = none := rfl
theorem look_pos {p : Int × Nat} {r : HS} {x : Int} (e : p.1 = x) : look (p :: r) x = some p.2 := by simp [look, List.find?_cons, e]
theorem look_neg {p : Int × Nat} {r : HS} {x : Int} (e : ¬ p.1 = x) : look (p :: r) x = look r x := by simp [look, List.find?_cons, e]
theorem look_none {x : Int} : ∀ {hs : HS}, look hs x = none ↔ x ∉ keysH hs
 | [] => by simp [look_nil, keysH]
 | p :: r => by
  by_cases e : p.1 = x
  ·rw [look_pos e]
   simp [keysH, e]
  ·rw [look_neg e, look_none]
   simp only [keysH, List.map_cons, List.mem_cons, not_or]
   exact ⟨fun h => ⟨fun z => e z.symm, h⟩, fun h => h.2⟩
theorem look_mem {x : Int} {v : Nat} : ∀ {hs : HS}, look hs x = some v -> (x, v) ∈ hs
 | [], h => by cases h
 | p :: r, h => by
  by_cases e : p.1 = x
  ·rw [look_pos e] at h
   cases h
   rw [<- e]
   exact List.mem_cons_self
  ·rw [look_neg e] at h
   exact List.mem_cons_of_mem _ (look_mem h)
theorem look_of_mem {x : Int} {v : Nat} : ∀ {hs : HS}, (keysH hs).Nodup -> (x, v) ∈ hs -> look hs x = some v
 | [], _, h => by cases h
 | p :: r, nd, h => by
  rcases List.mem_cons.mp h with z | z
  ·rw [look_pos (by rw [<- z])]
   rw [<- z]
  ·have hn : p.1 ∉ keysH r := (List.nodup_cons.mp nd).1
   have : ¬ p.1 = x := fun e => hn (by rw [e]; exact List.mem_map.mpr ⟨_, z, rfl⟩)
   rw [look_neg this]
   exact look_of_mem (List.nodup_cons.mp nd).2 z
theorem any_look (x : Int) : ∀ hs : HS, (hs.any fun p => decide (p.1 = x)) = (look hs x).isSome
 | [] => rfl
 | p :: r => by
  rw [List.any_cons]
  by_cases e : p.1 = x
  ·simp only [look_pos e, decide_eq_true e, Bool.true_or, Option.isSome_some]
  ·rw [look_neg e, decide_eq_false e, Bool.false_or]
   exact any_look x r
theorem look_map (x y : Int) (w : Nat) : ∀ hs : HS, look (hs.map fun p => if p.1 = x then (p.1, w) else p) y = (look hs y).map fun v => if y = x then w else v
 | [] => rfl
 | p :: r => by
  rw [List.map_cons]
  by_cases h : p.1 = x
  ·rw [if_pos h]
   by_cases e : p.1 = y
   ·rw [look_pos (p := (p.1, w)) e, look_pos e, Option.map_some, if_pos (e.symm.trans h)]
   ·rw [look_neg (p := (p.1, w)) e, look_neg e, look_map x y w r]
  ·rw [if_neg h]
   by_cases e : p.1 = y
   ·rw [look_pos e, look_pos e, Option.map_some, if_neg (fun z => h (e.trans z))]
   ·rw [look_neg e, look_neg e, look_map x y w r]
theorem look_snoc (x y : Int) (w : Nat) : ∀ hs : HS, look hs x = none -> look (hs ++ [(x, w)]) y = if y = x then some w else look hs y
 | [], _ => by
  by_cases e : x = y
  ·rw [if_pos e.symm]; exact look_pos (p := (x, w)) e
  ·rw [if_neg (fun z => e z.symm)]; exact look_neg (p := (x, w)) e
 | p :: r, hn => by
  rw [List.cons_append]
  have hk : ¬ p.1 = x := fun z => by rw [look_pos z] at hn; cases hn
  rw [look_neg hk] at hn
  by_cases e : p.1 = y
  ·rw [look_pos e, look_pos e, if_neg (fun z => hk (e.trans z))]
  ·rw [look_neg e, look_neg e, look_snoc x y w r hn]
theorem look_put (hs : HS) (x y : Int) (w : Nat) : look (putH hs x w) y = if y = x then some w else look hs y := by
 unfold putH
 rw [any_look]
 cases q : look hs x with
 | none =>
  rw [if_neg (by decide)]
  exact look_snoc x y w hs q
 | some v =>
  rw [if_pos (show (some v).isSome = true from rfl), look_map]
  by_cases e : y = x
  ·rw [if_pos e, e, q, Option.map_some, if_pos rfl]
  ·rw [if_neg e]
   cases look hs y with
   | none => rfl
   | some u => rw [Option.map_some, if_neg e]
theorem keys_map (x : Int) (w : Nat) (hs : HS) : keysH (hs.map fun p => if p.1 = x then (p.1, w) else p) = keysH hs := by
 unfold keysH
 rw [List.map_map]
 refine List.map_congr_left fun p _ => ?_
 show (if p.1 = x then (p.1, w) else p).1 = p.1
 split <;> rfl
theorem nodup_put {hs : HS} (x : Int) (w : Nat) (h : (keysH hs).Nodup) : (keysH (putH hs x w)).Nodup := by
 unfold putH
 rw [any_look]
 cases q : look hs x with
 | none =>
  rw [if_neg (by decide)]
  unfold keysH
  rw [List.map_append]
  refine List.nodup_append.mpr ⟨h, by simp, fun a ha b hb => ?_⟩
  rw [List.map_cons, List.map_nil, List.mem_singleton] at hb
  rintro rfl
  have hb' : a = x := hb
  exact look_none.mp q (hb' ▸ ha)
 | some v =>
  rw [if_pos (show (some v).isSome = true from rfl), keys_map]
  exact h
theorem mem_put {hs : HS} {x : Int} {w : Nat} {p : Int × Nat} (h : p ∈ putH hs x w) : p ∈ hs \/ p = (x, w) := by
 unfold putH at h
 split at h
 ·obtain ⟨q, hq, e⟩ := List.mem_map.mp h
  split at e
  ·next z => rw [<- e, z]; exact .inr rfl
  ·rw [<- e]; exact .inl hq
 ·rcases List.mem_append.mp h with z | z
  ·exact .inl z
  ·exact .inr (List.mem_singleton.mp z)
noncomputable def cnt (hs : HS) (ts : List Int) (v : Nat) : Nat := hs.countP fun p => decide (p.1 ∉ ts) && decide (p.2 = v)
theorem cnt_one {y : Int} {ts : List Int} (hy : y ∉ ts) (v : Nat) : ∀ {hs : HS}, (keysH hs).Nodup -> cnt hs ts v = cnt hs (ts ++ [y]) v + if look hs y = some v then 1 else 0
 | [], _ => by
  rw [look_nil, if_neg (by intro z; cases z)]
  rfl
 | p :: r, nd => by
  have ih := cnt_one hy v (List.nodup_cons.mp nd).2
  unfold cnt at ih ⊢
  rw [List.countP_cons, List.countP_cons]
  by_cases e : p.1 = y
  ·have hn : look r y = none := look_none.mpr (e ▸ (List.nodup_cons.mp nd).1)
   rw [hn, if_neg (by intro z; cases z), Nat.add_zero] at ih
   rw [look_pos e, ih]
   have h1 : (decide (p.1 ∉ ts ++ [y]) && decide (p.2 = v)) = false := by
    rw [decide_eq_false (by rw [e]; simp), Bool.false_and]
   have h2 : decide (p.1 ∉ ts) = true := decide_eq_true (by rw [e]; exact hy)
   rw [h1, h2, Bool.true_and, if_neg Bool.false_ne_true, Nat.add_zero]
   by_cases z : p.2 = v
   ·rw [if_pos (decide_eq_true z), if_pos (by rw [z])]
   ·rw [if_neg (by rw [decide_eq_false z]; exact Bool.false_ne_true), if_neg (fun q => z (Option.some.inj q))]
  ·rw [look_neg e, ih]
   have h1 : (decide (p.1 ∉ ts ++ [y]) && decide (p.2 = v)) = (decide (p.1 ∉ ts) && decide (p.2 = v)) := by
    congr 1
    refine decide_eq_decide.mpr ⟨fun h z => h (List.mem_append_left _ z), fun h z => ?_⟩
    rcases List.mem_append.mp z with z | z
    ·exact h z
    ·exact e (List.mem_singleton.mp z)
   rw [h1]
   omega
theorem cnt_many {v : Nat} {hs : HS} (nd : (keysH hs).Nodup) : ∀ {new ts : List Int}, (ts ++ new).Nodup -> cnt hs ts v = cnt hs (ts ++ new) v + new.countP fun y => decide (look hs y = some v)
 | [], ts, _ => by rw [List.append_nil]; rfl
 | y :: new, ts, h => by
  have e : ts ++ y :: new = (ts ++ [y]) ++ new := by rw [List.append_assoc]; rfl
  rw [e] at h ⊢
  have hy : y ∉ ts := fun z => by
   have := (List.nodup_append.mp (List.nodup_append.mp h).1).2.2 y z y (by simp)
   exact this rfl
  rw [cnt_one hy v nd, cnt_many nd h, List.countP_cons]
  by_cases q : look hs y = some v
  ·rw [if_pos q, if_pos (decide_eq_true q)]
   omega
  ·rw [if_neg q, if_neg (by rw [decide_eq_false q]; exact Bool.false_ne_true)]
   omega
theorem cnt_put {y : Int} {ts : List Int} (hy : y ∉ ts) {hs : HS} (nd : (keysH hs).Nodup) (w v : Nat) : cnt (putH hs y w) ts v = cnt hs (ts ++ [y]) v + if v = w then 1 else 0 := by
 rw [cnt_one hy v (nodup_put y w nd), look_put, if_pos rfl]
 have h2 : cnt (putH hs y w) (ts ++ [y]) v = cnt hs (ts ++ [y]) v := by
  unfold putH cnt
  split
  ·rw [List.countP_map]
   refine List.countP_congr fun p _ => ?_
   show ((decide ((if p.1 = y then (p.1, w) else p).1 ∉ ts ++ [y]) && decide ((if p.1 = y then (p.1, w) else p).2 = v)) = true ↔ _)
   by_cases e : p.1 = y
   ·rw [if_pos e]
    have : decide (p.1 ∉ ts ++ [y]) = false := decide_eq_false (by rw [e]; simp)
    show ((decide (p.1 ∉ ts ++ [y]) && _) = true ↔ (decide (p.1 ∉ ts ++ [y]) && _) = true)
    rw [this, Bool.false_and, Bool.false_and]
   ·rw [if_neg e]
  ·rw [List.countP_append, List.countP_cons, List.countP_nil]
   have : (decide ((y, w).1 ∉ ts ++ [y]) && decide ((y, w).2 = v)) = false := by
    rw [decide_eq_false (by simp), Bool.false_and]
   rw [this, if_neg Bool.false_ne_true]
   rfl
 rw [h2]
 congr 1
 by_cases z : v = w
 ·rw [if_pos z, if_pos (by rw [z])]
 ·rw [if_neg z, if_neg (fun q => z (Option.some.inj q).symm)]
noncomputable abbrev Res := Bool × HS × List Int
noncomputable def loopF (rc : Nat -> HS -> List Int -> Res) (w : Nat) : List Int -> HS -> List Int -> Res
 | [], hs, ts => (false, hs, ts)
 | x :: xs, hs, ts => if x ∈ ts then loopF rc w xs hs ts else
  match look hs x with
  | none => (true, putH hs x w, ts ++ [x])
  | some v =>
   match rc v hs (ts ++ [x]) with
   | (true, hs', ts') => (true, putH hs' x w, ts')
   | (false, hs', ts') => loopF rc w xs hs' ts'
noncomputable def takesF (L : List (List Int)) : Nat -> Nat -> HS -> List Int -> Res
 | 0, _, hs, ts => (false, hs, ts)
 | k + 1, w, hs, ts => loopF (takesF L k) w (L.getD w []) hs ts
structure OkH (L : List (List Int)) (hs : HS) : Prop where
 nd : (keysH hs).Nodup
 ed : ∀ p ∈ hs, p.2 < L.length /\ p.1 ∈ L.getD p.2 []
structure Good (L : List (List Int)) (U : List Int) (w : Nat) (xs : List Int) (hs : HS) (ts : List Int) (r : Res) where
 new : List Int
 pre : r.2.2 = ts ++ new
 nd : r.2.2.Nodup
 sub : ∀ y ∈ new, y ∈ U
 keep : ∀ y ∈ ts, look r.2.1 y = look hs y
 ok : OkH L r.2.1
 yes : r.1 = true -> ∀ v, cnt r.2.1 ts v = cnt hs ts v + if v = w then 1 else 0
 no : r.1 = false -> r.2.1 = hs /\ (∀ x ∈ xs, x ∈ r.2.2) /\ ∀ y ∈ r.2.2, y ∉ ts -> ∃ v, look hs y = some v /\ ∀ x ∈ L.getD v [], x ∈ r.2.2
noncomputable def free (U ts : List Int) : Nat := U.countP fun y => decide (y ∉ ts)
theorem free_lt {U ts : List Int} {x : Int} (hx : x ∈ U) (hn : x ∉ ts) : free U (ts ++ [x]) < free U ts := by
 unfold free
 induction U with
 | nil => cases hx
 | cons y U ih =>
  rw [List.countP_cons, List.countP_cons]
  have mono : ∀ U : List Int, U.countP (fun y => decide (y ∉ ts ++ [x])) <= U.countP fun y => decide (y ∉ ts) := fun U => List.countP_mono_left fun y _ h => by
   simp only [List.mem_append, List.mem_singleton, not_or, decide_eq_true_eq] at h ⊢
   exact h.1
  by_cases e : y = x
  ·subst e
   rw [if_neg (by simp), if_pos (decide_eq_true hn)]
   have := mono U
   omega
  ·rcases List.mem_cons.mp hx with z | z
   ·exact (e z.symm).elim
   ·have h1 : decide (y ∉ ts ++ [x]) = decide (y ∉ ts) := by
     refine decide_eq_decide.mpr ⟨fun h q => h (List.mem_append_left _ q), fun h q => ?_⟩
     rcases List.mem_append.mp q with q | q
     ·exact h q
     ·exact e (List.mem_singleton.mp q)
    rw [h1]
    have := ih z
    omega
theorem free_le {U ts new : List Int} : free U (ts ++ new) <= free U ts := List.countP_mono_left fun y _ h => by
 simp only [List.mem_append, not_or, decide_eq_true_eq] at h ⊢
 exact h.1
theorem OkH.put {L : List (List Int)} {hs : HS} (o : OkH L hs) {x : Int} {w : Nat} (hw : w < L.length) (hx : x ∈ L.getD w []) : OkH L (putH hs x w) :=
 ⟨nodup_put x w o.nd, fun p hp => (mem_put hp).elim (o.ed p) fun e => by rw [e]; exact ⟨hw, hx⟩⟩
theorem loop_good {L : List (List Int)} {U : List Int} (hU : ∀ l ∈ L, ∀ x ∈ l, x ∈ U) {k : Nat} (ih : ∀ v hs ts, v < L.length -> OkH L hs -> ts.Nodup -> free U ts < k -> Nonempty (Good L U v (L.getD v []) hs ts (takesF L k v hs ts)))
  {w : Nat} (hw : w < L.length) : ∀ (xs : List Int) (hs : HS) (ts : List Int), (∀ x ∈ xs, x ∈ L.getD w []) -> OkH L hs -> ts.Nodup -> free U ts <= k -> Nonempty (Good L U w xs hs ts (loopF (takesF L k) w xs hs ts))
 | [], hs, ts, _, o, nt, _ => ⟨⟨[], (List.append_nil _).symm, nt, fun y h => (by cases h), fun _ _ => rfl, o, fun h => (by cases h), fun _ => ⟨rfl, fun x h => (by cases h), fun y h h' => (h' h).elim⟩⟩⟩
 | x :: xs, hs, ts, hxs, o, nt, hf => by
  have hxw : x ∈ L.getD w [] := hxs x List.mem_cons_self
  have hxs' : ∀ x ∈ xs, x ∈ L.getD w [] := fun y h => hxs y (List.mem_cons_of_mem _ h)
  have hxU : x ∈ U := by
   rw [List.getD_eq_getElem?_getD, List.getElem?_eq_getElem hw] at hxw
   exact hU _ (List.getElem_mem hw) x hxw
  by_cases e : x ∈ ts
  ·have hl : loopF (takesF L k) w (x :: xs) hs ts = loopF (takesF L k) w xs hs ts := by
    rw [loopF, if_pos e]
   rw [hl]
   obtain ⟨g⟩ := loop_good hU ih hw xs hs ts hxs' o nt hf
   refine ⟨⟨g.new, g.pre, g.nd, g.sub, g.keep, g.ok, g.yes, fun h => ⟨(g.no h).1, fun y hy => ?_, (g.no h).2.2⟩⟩⟩
   rcases List.mem_cons.mp hy with z | z
   ·rw [z, g.pre]; exact List.mem_append_left _ e
   ·exact (g.no h).2.1 y z
  ·have nt1 : (ts ++ [x]).Nodup := List.nodup_append.mpr ⟨nt, by simp, fun a ha b hb => by
    rw [List.mem_singleton] at hb
    rintro rfl
    exact e (hb ▸ ha)⟩
   cases q : look hs x with
   | none =>
    have hl : loopF (takesF L k) w (x :: xs) hs ts = (true, putH hs x w, ts ++ [x]) := by
     rw [loopF, if_neg e, q]
    rw [hl]
    refine ⟨⟨[x], rfl, nt1, fun y h => by rw [List.mem_singleton.mp h]; exact hxU, fun y hy => ?_, o.put hw hxw, fun _ v => ?_, fun h => (by cases h)⟩⟩
    ·show look (putH hs x w) y = look hs y
     rw [look_put, if_neg (fun z : y = x => e (z ▸ hy))]
    ·show cnt (putH hs x w) ts v = _
     rw [cnt_put e o.nd, cnt_one e v o.nd, q, if_neg (show ¬ (none : Option Nat) = some v from fun z => by cases z)]
     rfl
   | some v =>
    have hv : v < L.length := (o.ed _ (look_mem q)).1
    obtain ⟨g⟩ := ih v hs (ts ++ [x]) hv o nt1 (Nat.lt_of_lt_of_le (free_lt hxU e) hf)
    cases hr : takesF L k v hs (ts ++ [x]) with
    | mk b r =>
     obtain ⟨hs', ts'⟩ := r
     rw [hr] at g
     cases b with
     | true =>
      have hl : loopF (takesF L k) w (x :: xs) hs ts = (true, putH hs' x w, ts') := by
       rw [loopF, if_neg e, q]
       simp only [hr]
      rw [hl]
      have gp : ts' = ts ++ [x] ++ g.new := g.pre
      refine ⟨⟨[x] ++ g.new, by rw [<- List.append_assoc]; exact gp, g.nd, fun y h => ?_, fun y hy => ?_, g.ok.put hw hxw, fun _ u => ?_, fun h => (by cases h)⟩⟩
      ·rcases List.mem_append.mp h with z | z
       ·rw [List.mem_singleton.mp z]; exact hxU
       ·exact g.sub y z
      ·show look (putH hs' x w) y = look hs y
       rw [look_put, if_neg (fun z : y = x => e (z ▸ hy))]
       exact g.keep y (List.mem_append_left _ hy)
      ·show cnt (putH hs' x w) ts u = _
       have h1 : cnt hs' (ts ++ [x]) u = cnt hs (ts ++ [x]) u + if u = v then 1 else 0 := g.yes rfl u
       rw [cnt_put e g.ok.nd, h1, cnt_one e u o.nd, q]
       congr 2
       by_cases z : u = v
       ·rw [if_pos z, if_pos (by rw [z])]
       ·rw [if_neg z, if_neg (fun y => z (Option.some.inj y).symm)]
     | false =>
      have hl : loopF (takesF L k) w (x :: xs) hs ts = loopF (takesF L k) w xs hs' ts' := by
       rw [loopF, if_neg e, q]
       simp only [hr]
      rw [hl]
      obtain ⟨n1, n2, n3⟩ := g.no rfl
      have n1' : hs' = hs := n1
      subst n1'
      have gp : ts' = ts ++ [x] ++ g.new := g.pre
      have hf' : free U ts' <= k := by
       rw [gp, List.append_assoc]
       exact Nat.le_trans free_le hf
      obtain ⟨g2⟩ := loop_good hU ih hw xs hs' ts' hxs' o g.nd hf'
      have gp2 := g2.pre
      have hsub : ∀ y ∈ ts', y ∈ (loopF (takesF L k) w xs hs' ts').2.2 := fun y hy => by rw [gp2]; exact List.mem_append_left _ hy
      refine ⟨⟨[x] ++ g.new ++ g2.new, gp2.trans ((congrArg (· ++ g2.new) gp).trans (by simp only [List.append_assoc])), g2.nd, fun y h => ?_, fun y hy => ?_, g2.ok, fun h u => ?_, fun h => ⟨(g2.no h).1, fun y hy => ?_, fun y hy hn => ?_⟩⟩⟩
      ·rcases List.mem_append.mp h with h | h
       ·rcases List.mem_append.mp h with z | z
        ·rw [List.mem_singleton.mp z]; exact hxU
        ·exact g.sub y z
       ·exact g2.sub y h
      ·exact g2.keep y (by rw [gp]; exact List.mem_append_left _ (List.mem_append_left _ hy))
      ·have h2 := g2.yes h u
       have hnd : (ts ++ ([x] ++ g.new)).Nodup := by rw [<- List.append_assoc, <- gp]; exact g.nd
       have e1 := cnt_many (v := u) g2.ok.nd hnd
       have e2 := cnt_many (v := u) o.nd hnd
       rw [<- List.append_assoc, <- gp] at e1 e2
       have e3 : ([x] ++ g.new).countP (fun y => decide (look (loopF (takesF L k) w xs hs' ts').2.1 y = some u)) = ([x] ++ g.new).countP fun y => decide (look hs' y = some u) := by
        refine List.countP_congr fun y hy => ?_
        rw [g2.keep y (by rw [gp, List.append_assoc]; exact List.mem_append_right _ hy)]
       rw [e3] at e1
       omega
      ·rcases List.mem_cons.mp hy with z | z
       ·rw [z]
        exact hsub _ (by rw [gp]; exact List.mem_append_left _ (List.mem_append_right _ (List.mem_singleton.mpr rfl)))
       ·exact (g2.no h).2.1 y z
      ·by_cases hy' : y ∈ ts'
       ·by_cases z : y = x
        ·exact ⟨v, by rw [z]; exact q, fun a ha => hsub a (n2 a ha)⟩
        ·obtain ⟨u, hu, hc⟩ := n3 y hy' (fun m => (List.mem_append.mp m).elim hn fun m => z (List.mem_singleton.mp m))
         exact ⟨u, hu, fun a ha => hsub a (hc a ha)⟩
       ·exact (g2.no h).2.2 y hy hy'
theorem takes_good {L : List (List Int)} {U : List Int} (hU : ∀ l ∈ L, ∀ x ∈ l, x ∈ U) : ∀ (k v : Nat) (hs : HS) (ts : List Int), v < L.length -> OkH L hs -> ts.Nodup -> free U ts < k -> Nonempty (Good L U v (L.getD v []) hs ts (takesF L k v hs ts))
 | 0, _, _, _, _, _, _, h => absurd h (Nat.not_lt_zero _)
 | k + 1, v, hs, ts, hv, o, nt, h => loop_good hU (takes_good hU k) hv _ hs ts (fun _ h => h) o nt (Nat.le_of_lt_succ h)
end My
namespace My
noncomputable def stuckF (L : List (List Int)) (k : Nat) : List Nat -> HS -> Option (Nat × List Int) × HS
 | [], hs => (none, hs)
 | w :: ws, hs => match takesF L k w hs [] with
  | (true, hs', _) => stuckF L k ws hs'
  | (false, hs', ts) => (some (w, ts), hs')
noncomputable def valH (hs : HS) (y : Int) : Nat := (look hs y).getD 0
structure Paper (L : List (List Int)) (hs : HS) (u : Nat) (ts : List Int) : Prop where
 hu : u < L.length
 nd : ts.Nodup
 held : ∀ y ∈ ts, ∃ v, look hs y = some v /\ v < L.length /\ v ≠ u /\ ∀ x ∈ L.getD v [], x ∈ ts
 inj : ∀ y ∈ ts, ∀ z ∈ ts, look hs y = look hs z -> y = z
 own : ∀ x ∈ L.getD u [], x ∈ ts
theorem cnt_pos {hs : HS} (nd : (keysH hs).Nodup) {y : Int} {v : Nat} (h : look hs y = some v) : 1 <= cnt hs [] v := by
 rw [cnt_one (y := y) (ts := []) (by simp) v nd, if_pos h]
 exact Om.k131 
theorem cnt_two {hs : HS} (nd : (keysH hs).Nodup) {y z : Int} {v : Nat} (h : look hs y = some v) (h' : look hs z = some v) (ne : y ≠ z) : 2 <= cnt hs [] v := by
 rw [cnt_one (y := y) (ts := []) (by simp) v nd, if_pos h, cnt_one (y := z) (ts := [] ++ [y]) (by simpa using fun e => ne e.symm) v nd, if_pos h']
 exact Om.k130 
structure Held (L : List (List Int)) (hs : HS) (w : Nat) : Prop where
 ok : OkH L hs
 one : ∀ v, cnt hs [] v = if v < w then 1 else 0
theorem Held.inj {L : List (List Int)} {hs : HS} {w : Nat} (h : Held L hs w) {y z : Int} {v : Nat} (hy : look hs y = some v) (hz : look hs z = some v) : y = z := by
 by_cases e : y = z
 ·exact e
 ·have h2 := cnt_two h.ok.nd hy hz e
  rw [h.one v] at h2
  split at h2 <;> omega
theorem Held.lt {L : List (List Int)} {hs : HS} {w : Nat} (h : Held L hs w) {y : Int} {v : Nat} (hy : look hs y = some v) : v < w := by
 have h2 := cnt_pos h.ok.nd hy
 rw [h.one v] at h2
 split at h2
 ·assumption
 ·exact (Om.k129 h2).elim
theorem stuck_ok {L : List (List Int)} {U : List Int} (hU : ∀ l ∈ L, ∀ x ∈ l, x ∈ U) {k : Nat} (hk : U.length < k) : ∀ (m w : Nat) (hs : HS), w + m = L.length -> Held L hs w ->
  ((stuckF L k (List.range' w m) hs).1 = none -> Held L (stuckF L k (List.range' w m) hs).2 L.length) /\
   ∀ u ts, (stuckF L k (List.range' w m) hs).1 = some (u, ts) -> Paper L (stuckF L k (List.range' w m) hs).2 u ts
 | 0, w, hs, hw, h => ⟨fun _ => by rw [<- hw]; exact h, fun u ts e => by cases e⟩
 | m + 1, w, hs, hw, h => by
  have hwl : w < L.length := by exact Om.k128 hw
  have hfr : free U [] < k := Nat.lt_of_le_of_lt List.countP_le_length hk
  obtain ⟨g⟩ := takes_good hU k w hs [] hwl h.ok List.nodup_nil hfr
  rw [List.range'_succ]
  cases hr : takesF L k w hs [] with
  | mk b r =>
   obtain ⟨hs', ts'⟩ := r
   rw [hr] at g
   cases b with
   | true =>
    have e : stuckF L k (w :: List.range' (w + 1) m) hs = stuckF L k (List.range' (w + 1) m) hs' := by
     rw [stuckF]
     simp only [hr]
    rw [e]
    refine stuck_ok hU hk m (w + 1) hs' (by exact Om.k127 hw) ⟨g.ok, fun v => ?_⟩
    have := g.yes rfl v
    rw [show cnt hs' [] v = _ from this, h.one v]
    by_cases a : v < w
    ·rw [if_pos a, if_neg (by exact Om.k126 hw a), if_pos (by exact Om.f2 ‹_›)]
    ·rw [if_neg a]
     by_cases b : v = w
     ·rw [if_pos b, if_pos (by exact Om.k125 hw b)]
     ·rw [if_neg b, if_neg (by exact Om.k124 hw a b)]
   | false =>
    have e : stuckF L k (w :: List.range' (w + 1) m) hs = (some (w, ts'), hs') := by
     rw [stuckF]
     simp only [hr]
    rw [e]
    obtain ⟨n1, n2, n3⟩ := g.no rfl
    have n1' : hs' = hs := n1
    subst n1'
    refine ⟨fun z => (by cases z), fun u ts z => ?_⟩
    cases z
    refine ⟨hwl, g.nd, fun y hy => ?_, fun y hy z hz q => ?_, n2⟩
    ·obtain ⟨v, hv, hc⟩ := n3 y hy (by simp)
     have := h.lt hv
     exact ⟨v, hv, by exact Om.k123 hw hwl this, by exact Om.k122 hw this, hc⟩
    ·obtain ⟨v, hv, _⟩ := n3 y hy (by simp)
     exact h.inj hv (q ▸ hv)
theorem held_nil (L : List (List Int)) : Held L [] 0 := ⟨⟨List.nodup_nil, fun p h => by cases h⟩, fun v => by rw [if_neg (by exact Om.k121 )]; rfl⟩
theorem len_le : ∀ {T S : List Int}, T.Nodup -> (∀ x ∈ T, x ∈ S) -> T.length <= S.length
 | [], _, _, _ => Nat.zero_le _
 | x :: T, S, nd, h => by
  have hx : x ∈ S := h x List.mem_cons_self
  have ih := len_le (T := T) (S := S.erase x) (List.nodup_cons.mp nd).2 fun y hy => by
   have : y ≠ x := fun e => (List.nodup_cons.mp nd).1 (e ▸ hy)
   exact (List.mem_erase_of_ne this).mpr (h y (List.mem_cons_of_mem _ hy))
  rw [List.length_erase_of_mem hx] at ih
  have : 0 < S.length := List.length_pos_of_mem hx
  rw [List.length_cons]
  omega
noncomputable def paperOf (hs : HS) (u : Nat) (ts : List Int) : List Int := (u : Int) :: ts.map fun y => ((valH hs y : Nat) : Int)
theorem Paper.val {L : List (List Int)} {hs : HS} {u : Nat} {ts : List Int} (p : Paper L hs u ts) {y : Int} (hy : y ∈ ts) : look hs y = some (valH hs y) := by
 obtain ⟨v, hv, _⟩ := p.held y hy
 unfold valH
 rw [hv]
 rfl
theorem Paper.nodup {L : List (List Int)} {hs : HS} {u : Nat} {ts : List Int} (p : Paper L hs u ts) : (paperOf hs u ts).Nodup := by
 refine List.nodup_cons.mpr ⟨fun h => ?_, ?_⟩
 ·obtain ⟨y, hy, e⟩ := List.mem_map.mp h
  obtain ⟨v, hv, _, hne, _⟩ := p.held y hy
  rw [p.val hy] at hv
  have := Option.some.inj hv
  exact (Om.k120 e hne this).elim
 ·refine List.nodup_iff_pairwise_ne.mpr (List.pairwise_map.mpr ?_)
  have nd := p.nd
  have go : ∀ {l : List Int}, (∀ x ∈ l, x ∈ ts) -> l.Nodup -> l.Pairwise fun a b => ((valH hs a : Nat) : Int) ≠ ((valH hs b : Nat) : Int) := by
   intro l
   induction l with
   | nil => intro _ _; exact .nil
   | cons a l ih =>
    intro hs' nd
    refine .cons (fun b hb e => ?_) (ih (fun x hx => hs' x (List.mem_cons_of_mem _ hx)) (List.nodup_cons.mp nd).2)
    have ha := hs' a List.mem_cons_self
    have hb' := hs' b (List.mem_cons_of_mem _ hb)
    have : a = b := p.inj a ha b hb' (by rw [p.val ha, p.val hb']; congr 1; exact Om.e1 ‹_›)
    exact (List.nodup_cons.mp nd).1 (this ▸ hb)
  exact go (fun _ h => h) nd
theorem Paper.mem {L : List (List Int)} {hs : HS} {u : Nat} {ts : List Int} (p : Paper L hs u ts) {z : Int} (h : z ∈ paperOf hs u ts) : ∃ v : Nat, z = (v : Int) /\ v < L.length /\ ∀ x ∈ L.getD v [], x ∈ ts := by
 rcases List.mem_cons.mp h with e | e
 ·exact ⟨u, e, p.hu, p.own⟩
 ·obtain ⟨y, hy, e⟩ := List.mem_map.mp e
  obtain ⟨v, hv, hl, _, hc⟩ := p.held y hy
  rw [p.val hy] at hv
  exact ⟨v, by rw [<- e, Option.some.inj hv], hl, hc⟩
end My
namespace My
noncomputable def colL (R : List (List Int)) (c : Nat) : List Int := R.map fun r => r.getD c 0
noncomputable def rngI (n : Nat) : List Int := (List.range n).map fun (k : Nat) => (k : Int)
structure OkRows (n : Nat) (R : List (List Int)) : Prop where
 len : R.length <= n
 row : ∀ r ∈ R, r.length = n /\ r.Nodup /\ ∀ x ∈ r, 0 <= x /\ x < (n : Int)
 col : ∀ c, c < n -> (colL R c).Nodup
noncomputable def lackL (n : Nat) (R : List (List Int)) (c : Nat) : List Int := (rngI n).filter fun t => decide (t ∉ colL R c)
noncomputable def lacks (n : Nat) (R : List (List Int)) : List (List Int) := (List.range n).map (lackL n R)
theorem mem_rngI {n : Nat} {x : Int} : x ∈ rngI n ↔ 0 <= x /\ x < (n : Int) := by
 unfold rngI
 rw [List.mem_map]
 constructor
 ·rintro ⟨k, hk, rfl⟩
  have := List.mem_range.mp hk
  omega
 ·intro h
  exact ⟨x.toNat, List.mem_range.mpr (by exact Om.k119 h), by exact Om.k118 h⟩
theorem rngI_nodup (n : Nat) : (rngI n).Nodup := by
 unfold rngI
 refine List.nodup_iff_pairwise_ne.mpr (List.pairwise_map.mpr ?_)
 exact (List.nodup_iff_pairwise_ne.mp List.nodup_range).imp fun h e => h (by exact Om.e1 ‹_›)
theorem rngI_len (n : Nat) : (rngI n).length = n := by rw [rngI, List.length_map, List.length_range]
theorem all_of_len {A B : List Int} (na : A.Nodup) (h : ∀ x ∈ A, x ∈ B) (hl : B.length <= A.length) : ∀ x ∈ B, x ∈ A := by
 intro x hx
 by_cases e : x ∈ A
 ·exact e
 ·exfalso
  have := len_le (T := A) (S := B.erase x) na fun y hy => by
   have : y ≠ x := fun z => e (z ▸ hy)
   exact (List.mem_erase_of_ne this).mpr (h y hy)
  rw [List.length_erase_of_mem hx] at this
  have : 0 < B.length := List.length_pos_of_mem hx
  exact (Om.k117 hl ‹_› this).elim
theorem row_has {n : Nat} {r : List Int} (hl : r.length = n) (nd : r.Nodup) (hr : ∀ x ∈ r, 0 <= x /\ x < (n : Int)) {t : Int} (ht : 0 <= t /\ t < (n : Int)) : t ∈ r :=
 all_of_len nd (fun x hx => mem_rngI.mpr (hr x hx)) (by rw [rngI_len, hl]; exact Nat.le_refl _) t (mem_rngI.mpr ht)
theorem stands_many {n : Nat} {t : Int} (ht : 0 <= t /\ t < (n : Int)) : ∀ {R : List (List Int)}, (∀ r ∈ R, r.length = n /\ r.Nodup /\ ∀ x ∈ r, 0 <= x /\ x < (n : Int)) -> (∀ c, c < n -> (colL R c).Nodup) -> R.length <= (List.range n).countP fun c => decide (t ∈ colL R c)
 | [], _, _ => Nat.zero_le _
 | r :: R, hr, hc => by
  have ih := stands_many ht (R := R) (fun r' h => hr r' (by simp [h])) fun c h => by
   have := hc c h
   exact (List.nodup_cons.mp this).2
  obtain ⟨hl, nd, hb⟩ := hr r (by simp)
  have hmem := row_has hl nd hb ht
  obtain ⟨i, hi, e⟩ := List.getElem_of_mem hmem
  have hin : i < n := by exact Om.a2 ‹_› ‹_›
  have hg : r.getD i 0 = t := by rw [List.getD_eq_getElem?_getD, List.getElem?_eq_getElem hi]; exact e
  have hni : t ∉ colL R i := by
   have : r.getD i 0 ∉ colL R i := (List.nodup_cons.mp (hc i hin)).1
   rw [hg] at this
   exact this
  have key : ∀ (l : List Nat), l.Nodup -> i ∈ l -> l.countP (fun c => decide (t ∈ colL R c)) + 1 <= l.countP fun c => decide (t ∈ colL (r :: R) c) := by
   intro l
   induction l with
   | nil => intro _ h; cases h
   | cons c l ih =>
    intro nd h
    have hsub : ∀ l : List Nat, l.countP (fun c => decide (t ∈ colL R c)) <= l.countP fun c => decide (t ∈ colL (r :: R) c) := fun l => by
     refine List.countP_mono_left fun c _ hc => ?_
     exact decide_eq_true (List.mem_cons_of_mem _ (of_decide_eq_true hc))
    rw [List.countP_cons, List.countP_cons]
    by_cases e : c = i
    ·subst e
     rw [decide_eq_false hni, decide_eq_true (show t ∈ colL (r :: R) c by show t ∈ r.getD c 0 :: _; rw [hg]; exact List.mem_cons_self)]
     have := hsub l
     simp
     assumption
    ·have hin : i ∈ l := by
      rcases List.mem_cons.mp h with z | z
      ·exact absurd z.symm e
      ·exact z
     have := ih (List.nodup_cons.mp nd).2 hin
     by_cases q : t ∈ colL R c
     ·rw [decide_eq_true q, decide_eq_true (show t ∈ colL (r :: R) c from List.mem_cons_of_mem _ q)]
      simp
      assumption
     ·rw [decide_eq_false q]
      simp
      exact Om.k116 hi this
  have := key (List.range n) List.nodup_range (List.mem_range.mpr hin)
  rw [List.length_cons]
  omega
theorem countP_neg (l : List Nat) (p : Nat -> Bool) : l.countP (fun c => !p c) + l.countP p = l.length := by
 induction l with
 | nil => rfl
 | cons a l ih =>
  rw [List.countP_cons, List.countP_cons, List.length_cons]
  cases p a <;> simp <;> omega
theorem lack_len {n : Nat} {R : List (List Int)} (c : Nat) : n - R.length <= (lackL n R c).length := by
 have h : (rngI n).length <= (lackL n R c).length + (colL R c).length := by
  have := len_le (T := rngI n) (S := lackL n R c ++ colL R c) (rngI_nodup n) fun x hx => by
   by_cases e : x ∈ colL R c
   ·exact List.mem_append_right _ e
   ·exact List.mem_append_left _ (List.mem_filter.mpr ⟨hx, decide_eq_true e⟩)
  rwa [List.length_append] at this
 rw [rngI_len] at h
 unfold colL at h
 rw [List.length_map] at h
 omega
theorem dbl (T : List Int) (m : Nat -> Int -> Bool) : ∀ P : List Nat, (P.map fun p => T.countP fun t => m p t).sum = (T.map fun t => P.countP fun p => m p t).sum
 | [] => by
  induction T with
  | nil => rfl
  | cons t T ih => simpa using ih
 | p :: P => by
  rw [List.map_cons, List.sum_cons, dbl T m P]
  clear dbl
  induction T with
  | nil => rfl
  | cons t T ih =>
   rw [List.map_cons, List.map_cons, List.sum_cons, List.sum_cons, List.countP_cons, List.countP_cons]
   exact Om.k115 ih
theorem sum_ge {α : Type} {f : α -> Nat} {d : Nat} : ∀ {l : List α}, (∀ x ∈ l, d <= f x) -> l.length * d <= (l.map f).sum
 | [], _ => by simp
 | x :: l, h => by
  have := sum_ge (l := l) fun y hy => h y (by simp [hy])
  have := h x (by simp)
  rw [List.map_cons, List.sum_cons, List.length_cons, Nat.succ_mul]
  omega
theorem sum_le {α : Type} {f : α -> Nat} {d : Nat} : ∀ {l : List α}, (∀ x ∈ l, f x <= d) -> (l.map f).sum <= l.length * d
 | [], _ => by simp
 | x :: l, h => by
  have := sum_le (l := l) fun y hy => h y (by simp [hy])
  have := h x (by simp)
  rw [List.map_cons, List.sum_cons, List.length_cons, Nat.succ_mul]
  omega
theorem lacks_get {n : Nat} {R : List (List Int)} {c : Nat} (h : c < n) : (lacks n R).getD c [] = lackL n R c := by
 unfold lacks
 rw [List.getD_eq_getElem?_getD, List.getElem?_map, List.getElem?_range h]
 rfl
theorem lacks_len (n : Nat) (R : List (List Int)) : (lacks n R).length = n := by rw [lacks, List.length_map, List.length_range]
theorem filt_len {A B : List Int} (na : A.Nodup) (h : ∀ x ∈ A, x ∈ B) : A.length <= B.countP fun t => decide (t ∈ A) := by
 rw [List.countP_eq_length_filter]
 exact len_le na fun x hx => List.mem_filter.mpr ⟨h x hx, decide_eq_true hx⟩
theorem countP_sub : ∀ {A B : List Nat} (p : Nat -> Bool), A.Nodup -> (∀ x ∈ A, x ∈ B) -> A.countP p <= B.countP p
 | [], B, p, _, _ => by simp
 | a :: A, B, p, nd, h => by
  have ha := h a (by simp)
  have ih := countP_sub (A := A) (B := B.erase a) p (List.nodup_cons.mp nd).2 fun x hx => by
   have : x ≠ a := fun e => (List.nodup_cons.mp nd).1 (e ▸ hx)
   exact (List.mem_erase_of_ne this).mpr (h x (by simp [hx]))
  have e : B.countP p = (B.erase a).countP p + if p a then 1 else 0 := by
   have := (List.perm_cons_erase ha).countP_eq p
   rw [this, List.countP_cons]
  rw [List.countP_cons, e]
  omega
theorem no_paper {n : Nat} {R : List (List Int)} (ok : OkRows n R) (hlt : R.length < n) {hs : HS} {u : Nat} {ts : List Int} (pa : Paper (lacks n R) hs u ts) : False := by
 let P : List Nat := u :: ts.map (valH hs)
 have eP : paperOf hs u ts = P.map fun (k : Nat) => (k : Int) := by
  show _ = (u : Int) :: (ts.map (valH hs)).map _
  rw [List.map_map]
  rfl
 have ndP : P.Nodup := by
  have := pa.nodup
  rw [eP] at this
  exact List.nodup_iff_pairwise_ne.mpr ((List.pairwise_map.mp (List.nodup_iff_pairwise_ne.mp this)).imp fun h e => h (by rw [e]))
 have hP : ∀ p ∈ P, p < n /\ ∀ x ∈ lackL n R p, x ∈ ts := fun p hp => by
  obtain ⟨v, e, hv, hx⟩ := pa.mem (z := (p : Int)) (by rw [eP]; exact List.mem_map.mpr ⟨p, hp, rfl⟩)
  have : v = p := by exact Om.k114 e
  subst this
  rw [lacks_len] at hv
  rw [lacks_get hv] at hx
  exact ⟨hv, hx⟩
 have h1 := sum_ge (l := P) (f := fun p => ts.countP fun t => decide (t ∈ lackL n R p)) (d := n - R.length) fun p hp => by
  have nd : (lackL n R p).Nodup := (rngI_nodup n).sublist List.filter_sublist
  exact Nat.le_trans (lack_len p) (filt_len nd (hP p hp).2)
 rw [dbl ts (fun p t => decide (t ∈ lackL n R p)) P] at h1
 have h2 := sum_le (l := ts) (f := fun t => P.countP fun p => decide (t ∈ lackL n R p)) (d := n - R.length) fun t _ => by
  by_cases ht : 0 <= t /\ t < (n : Int)
  ·have hs := stands_many ht ok.row ok.col
   have hn := countP_neg (List.range n) fun c => decide (t ∈ colL R c)
   rw [List.length_range] at hn
   have hle : P.countP (fun p => decide (t ∈ lackL n R p)) <= (List.range n).countP fun c => !decide (t ∈ colL R c) := by
    refine Nat.le_trans (countP_sub (B := List.range n) _ ndP fun x hx => List.mem_range.mpr (hP x hx).1) (List.countP_mono_left fun c _ hc => ?_)
    have := (List.mem_filter.mp (of_decide_eq_true hc)).2
    simpa using this
   omega
  ·have : P.countP (fun p => decide (t ∈ lackL n R p)) = 0 := by
    rw [List.countP_eq_zero]
    intro p _ hc
    exact ht (mem_rngI.mp (List.mem_filter.mp (of_decide_eq_true hc)).1)
   omega
 have hl : P.length = ts.length + 1 := by show (u :: ts.map (valH hs)).length = _; rw [List.length_cons, List.length_map]
 rw [hl, Nat.succ_mul] at h1
 have h3 : 0 < n - R.length := by exact Om.k113 hlt
 exact (Om.k112 h1 h2 h3).elim
theorem OkRows.more {n : Nat} {R : List (List Int)} (ok : OkRows n R) (hlt : R.length < n) {r : List Int} (hl : r.length = n) (nd : r.Nodup) (hm : ∀ c, c < n -> r.getD c 0 ∈ lackL n R c) : OkRows n (R ++ [r]) := by
 have hb : ∀ x ∈ r, 0 <= x /\ x < (n : Int) := fun x hx => by
  obtain ⟨i, hi, e⟩ := List.getElem_of_mem hx
  have := hm i (by exact Om.a2 ‹_› ‹_›)
  rw [List.getD_eq_getElem?_getD, List.getElem?_eq_getElem hi] at this
  have := (List.mem_filter.mp this).1
  have h2 := mem_rngI.mp this
  rw [<- e]
  exact h2
 refine ⟨by rw [List.length_append]; exact hlt, fun r' h => ?_, fun c hc => ?_⟩
 ·rcases List.mem_append.mp h with h | h
  ·exact ok.row r' h
  ·rw [List.mem_singleton.mp h]
   exact ⟨hl, nd, hb⟩
 ·unfold colL
  rw [List.map_append]
  refine List.nodup_append.mpr ⟨ok.col c hc, by simp, fun a ha b hb' e => ?_⟩
  have hb2 : b = r.getD c 0 := by simpa using hb'
  have h2 := (List.mem_filter.mp (hm c hc)).2
  have h3 : r.getD c 0 ∉ colL R c := by simpa using h2
  exact h3 (by rw [<- hb2, <- e]; exact ha)
theorem rngI_sorted (n : Nat) : (rngI n).Pairwise (· <= ·) := by
 unfold rngI
 rw [List.pairwise_map]
 exact List.pairwise_lt_range.imp fun h => by exact Om.k44 h
theorem row_perm {n : Nat} {r : List Int} (hl : r.length = n) (nd : r.Nodup) (hr : ∀ x ∈ r, 0 <= x /\ x < (n : Int)) : r.Perm (rngI n) :=
 (List.perm_ext_iff_of_nodup nd (rngI_nodup n)).mpr fun x => ⟨fun h => mem_rngI.mpr (hr x h), fun h => row_has hl nd hr (mem_rngI.mp h)⟩
end My
namespace My
theorem Held.has {L : List (List Int)} {hs : HS} {n v : Nat} (h : Held L hs n) (hv : v < n) : ∃ y, look hs y = some v := by
 have h1 := h.one v
 rw [if_pos hv] at h1
 unfold cnt at h1
 have h2 : 0 < hs.countP fun p => decide (p.1 ∉ ([] : List Int)) && decide (p.2 = v) := by exact Om.k111 h1
 obtain ⟨p, hp, hq⟩ := List.countP_pos_iff.mp h2
 simp only [Bool.and_eq_true, decide_eq_true_eq] at hq
 exact ⟨p.1, look_of_mem h.ok.nd (by rw [<- hq.2]; exact hp)⟩
structure OkRow (n : Nat) (A : List (List Int)) (r : List Int) : Prop where
 len : r.length = n
 nd : r.Nodup
 at_ : ∀ c, c < n -> r.getD c 0 ∈ lackL n A c
theorem row_exists {n : Nat} {R : List (List Int)} (ok : OkRows n R) (hlt : R.length < n) : ∃ r, OkRow n R r := by
 have hU : ∀ l ∈ lacks n R, ∀ x ∈ l, x ∈ rngI n := fun l hl x hx => by
  obtain ⟨c, _, rfl⟩ := List.mem_map.mp hl
  exact (List.mem_filter.mp hx).1
 have g := stuck_ok (L := lacks n R) (U := rngI n) hU (k := n + 1) (by rw [rngI_len]; exact Om.k110 ) (lacks n R).length 0 [] (by exact Om.k109 ) (held_nil _)
 generalize stuckF (lacks n R) (n + 1) (List.range' 0 (lacks n R).length) [] = z at g
 obtain ⟨o, hs⟩ := z
 cases o with
 | some p => exact (no_paper ok hlt (g.2 p.1 p.2 rfl)).elim
 | none =>
  have hd := g.1 rfl
  rw [lacks_len] at hd
  let pick : Nat -> Int := fun v => if h : v < n then Classical.choose (hd.has h) else 0
  have hp : ∀ v, v < n -> look hs (pick v) = some v := fun v hv => by
   show look hs (if h : v < n then Classical.choose (hd.has h) else 0) = some v
   rw [dif_pos hv]
   exact Classical.choose_spec (hd.has hv)
  refine ⟨(List.range n).map pick, by rw [List.length_map, List.length_range], ?_, fun c hc => ?_⟩
  ·refine List.nodup_iff_pairwise_ne.mpr (List.pairwise_map.mpr ?_)
   refine List.Pairwise.imp_of_mem ?_ (List.nodup_iff_pairwise_ne.mp List.nodup_range)
   intro a b ha hb hne e
   have h1 := hp a (List.mem_range.mp ha)
   rw [e, hp b (List.mem_range.mp hb)] at h1
   exact hne (Option.some.inj h1).symm
  ·have e : ((List.range n).map pick).getD c 0 = pick c := by
    rw [List.getD_eq_getElem?_getD, List.getElem?_map, List.getElem?_range hc]
    rfl
   rw [e]
   have h2 := (hd.ok.ed _ (look_mem (hp c hc))).2
   rw [lacks_get hc] at h2
   exact h2
theorem OkRow.more {n : Nat} {R : List (List Int)} {r : List Int} (h : OkRow n R r) (ok : OkRows n R) (hlt : R.length < n) : OkRows n (R ++ [r]) := ok.more hlt h.len h.nd h.at_
noncomputable def nextT (n : Nat) (A : List (List Int)) (row : List Int) : List Int := (rngI n).filter fun t => decide (t ∉ row) && decide (t ∉ colL A row.length)
structure PRow (n : Nat) (A : List (List Int)) (row : List Int) : Prop where
 len : row.length <= n
 nd : row.Nodup
 at_ : ∀ c, c < row.length -> row.getD c 0 ∈ lackL n A c
theorem PRow.nil (n : Nat) (A : List (List Int)) : PRow n A [] := ⟨Nat.zero_le _, List.nodup_nil, fun c h => absurd h (Nat.not_lt_zero _)⟩
theorem PRow.full {n : Nat} {A : List (List Int)} {row : List Int} (p : PRow n A row) (h : row.length = n) : OkRow n A row := ⟨h, p.nd, fun c hc => p.at_ c (by exact Om.a1 ‹_› ‹_›)⟩
theorem PRow.next {n : Nat} {A : List (List Int)} {row : List Int} (p : PRow n A row) (h : row.length < n) {t : Int} (ht : t ∈ nextT n A row) : PRow n A (row ++ [t]) := by
 obtain ⟨h1, h2⟩ := List.mem_filter.mp ht
 simp only [Bool.and_eq_true, decide_eq_true_eq] at h2
 refine ⟨by rw [List.length_append]; exact h, List.nodup_append.mpr ⟨p.nd, by simp, fun a ha b hb => by
  rw [List.mem_singleton] at hb
  rintro rfl
  exact h2.1 (hb ▸ ha)⟩, fun c hc => ?_⟩
 rw [List.length_append] at hc
 have hc' : c < row.length + 1 := hc
 by_cases e : c < row.length
 ·have := p.at_ c e
  rw [List.getD_eq_getElem?_getD, List.getElem?_append_left e, <- List.getD_eq_getElem?_getD]
  exact this
 ·have ec : c = row.length := by exact Om.k95 hc' e
  subst ec
  rw [List.getD_eq_getElem?_getD, List.getElem?_append_right (Nat.le_refl _), Nat.sub_self]
  exact List.mem_filter.mpr ⟨h1, decide_eq_true h2.2⟩
theorem next_of {n : Nat} {A : List (List Int)} {row r : List Int} (h : row.length < n) (o : OkRow n A r) (hp : row <+: r) : ∃ t ∈ nextT n A row, row ++ [t] <+: r := by
 obtain ⟨tl, rfl⟩ := hp
 have hl := o.len
 rw [List.length_append] at hl
 cases tl with
 | nil => simp at hl; exact (Om.k108 h hl).elim
 | cons t tl =>
  refine ⟨t, ?_, ⟨tl, by simp⟩⟩
  have h1 := o.at_ row.length (by assumption)
  rw [List.getD_eq_getElem?_getD, List.getElem?_append_right (Nat.le_refl _), Nat.sub_self] at h1
  obtain ⟨h2, h3⟩ := List.mem_filter.mp h1
  refine List.mem_filter.mpr ⟨h2, ?_⟩
  have h4 := List.nodup_append.mp o.nd
  simp only [Bool.and_eq_true]
  exact ⟨decide_eq_true fun z => h4.2.2 t z t List.mem_cons_self rfl, h3⟩
theorem turn_at {len : Nat} (h : 0 < len) (t : Int) {i : Nat} (hi : i < len) : ∃ j : Nat, j < len /\ (t + (j : Int)) % (len : Int) = (i : Int) := by
 have hl : (0 : Int) < (len : Int) := by exact Om.k107 h
 have h1 := Int.emod_nonneg ((i : Int) - t) (by exact Om.k106 h : (len : Int) ≠ 0)
 have h2 := Int.emod_lt_of_pos ((i : Int) - t) hl
 refine ⟨(((i : Int) - t) % (len : Int)).toNat, by exact Om.k97 h1 h2, ?_⟩
 rw [Int.toNat_of_nonneg h1, Int.add_emod, Int.emod_emod_of_dvd _ (Int.dvd_refl _), <- Int.add_emod]
 rw [show t + ((i : Int) - t) = (i : Int) by exact Om.k105 ]
 exact Int.emod_eq_of_lt (by exact Om.c6) (by exact Om.c5 ‹_›)
end My
namespace My
structure One (n : Nat) (s : Nat -> Nat) : Prop where
 lt : ∀ c, c < n -> s c < n
 inj : ∀ c d, c < n -> d < n -> s c = s d -> c = d
noncomputable def lastN (acc : List Nat) : Nat := acc.getLast?.getD 0
theorem lastN_app (acc : List Nat) (x : Nat) : lastN (acc ++ [x]) = x := by simp [lastN]
inductive Path (n : Nat) (s : Nat -> Nat) (c : Nat) : List Nat -> Prop
 | one : c < n -> Path n s c [c]
 | more {acc : List Nat} : Path n s c acc -> s (lastN acc) ∉ acc -> Path n s c (acc ++ [s (lastN acc)])
theorem Path.lt {n : Nat} {s : Nat -> Nat} {c : Nat} (o : One n s) {acc : List Nat} (p : Path n s c acc) : ∀ x ∈ acc, x < n := by
 induction p with
 | one h => intro x hx; rw [List.mem_singleton.mp hx]; exact h
 | @more acc p _ ih =>
  have hl : lastN acc < n := by
   cases p with
   | one h => exact h
   | @more acc' p' _ => rw [lastN_app]; exact ih _ (by simp)
  intro x hx
  rcases List.mem_append.mp hx with hx | hx
  ·exact ih x hx
  ·rw [List.mem_singleton.mp hx]
   exact o.lt _ hl
theorem Path.last_mem {n : Nat} {s : Nat -> Nat} {c : Nat} {acc : List Nat} (p : Path n s c acc) : lastN acc ∈ acc := by
 cases p with
 | one _ => exact List.mem_singleton.mpr rfl
 | more _ _ => rw [lastN_app]; simp
theorem Path.nodup {n : Nat} {s : Nat -> Nat} {c : Nat} {acc : List Nat} (p : Path n s c acc) : acc.Nodup := by
 induction p with
 | one _ => simp
 | more p h ih => exact List.nodup_append.mpr ⟨ih, by simp, fun a ha b hb e => h (by rw [<- List.mem_singleton.mp hb, <- e]; exact ha)⟩
theorem Path.head_mem {n : Nat} {s : Nat -> Nat} {c : Nat} {acc : List Nat} (p : Path n s c acc) : c ∈ acc := by
 induction p with
 | one _ => exact List.mem_singleton.mpr rfl
 | more _ _ ih => exact List.mem_append_left _ ih
theorem Path.pred {n : Nat} {s : Nat -> Nat} {c : Nat} {acc : List Nat} (p : Path n s c acc) : ∀ x ∈ acc, x ≠ c -> ∃ y ∈ acc, y ≠ lastN acc /\ s y = x := by
 induction p with
 | one _ => intro x hx hne; exact absurd (List.mem_singleton.mp hx) hne
 | @more acc p h ih =>
  intro x hx hne
  rw [lastN_app]
  rcases List.mem_append.mp hx with hx | hx
  ·obtain ⟨y, hy, _, e⟩ := ih x hx hne
   exact ⟨y, List.mem_append_left _ hy, fun z => h (z ▸ hy), e⟩
  ·exact ⟨lastN acc, List.mem_append_left _ p.last_mem, fun z => h (z ▸ p.last_mem), (List.mem_singleton.mp hx).symm⟩
theorem Path.back {n : Nat} {s : Nat -> Nat} {c : Nat} (o : One n s) {acc : List Nat} (p : Path n s c acc) (h : s (lastN acc) ∈ acc) : s (lastN acc) = c := by
 by_cases e : s (lastN acc) = c
 ·exact e
 ·obtain ⟨y, hy, hne, hs⟩ := p.pred _ h e
  exact absurd (o.inj _ _ (p.lt o _ hy) (p.lt o _ p.last_mem) hs) hne
theorem nat_len {l : List Nat} {n : Nat} (nd : l.Nodup) (h : ∀ x ∈ l, x < n) : l.length <= n := by
 have nd' : (l.map fun (c : Nat) => (c : Int)).Nodup := List.nodup_iff_pairwise_ne.mpr (List.pairwise_map.mpr ((List.nodup_iff_pairwise_ne.mp nd).imp fun h e => h (by exact Om.e1 ‹_›)))
 have := len_le nd' (S := rngI n) fun x hx => by
  obtain ⟨c, hc, rfl⟩ := List.mem_map.mp hx
  have := h c hc
  exact mem_rngI.mpr ⟨by exact Om.c6, by exact Om.c5 ‹_›⟩
 rwa [List.length_map, rngI_len] at this
noncomputable def ringF (s : Nat -> Nat) (c : Nat) : Nat -> List Nat -> List Nat
 | 0, acc => acc
 | m + 1, acc => if s (lastN acc) = c then acc else ringF s c m (acc ++ [s (lastN acc)])
noncomputable def ringL (s : Nat -> Nat) (n c : Nat) : List Nat := ringF s c n [c]
theorem Path.next {n : Nat} {s : Nat -> Nat} {c : Nat} (o : One n s) {acc : List Nat} (p : Path n s c acc) (h : s (lastN acc) ≠ c) : Path n s c (acc ++ [s (lastN acc)]) /\ acc.length < n := by
 have p' : Path n s c (acc ++ [s (lastN acc)]) := .more p fun z => h (p.back o z)
 refine ⟨p', ?_⟩
 have := nat_len p'.nodup (p'.lt o)
 rw [List.length_append] at this
 exact this
theorem ringF_ok {n : Nat} {s : Nat -> Nat} {c : Nat} (o : One n s) : ∀ (m : Nat) (acc : List Nat), Path n s c acc -> n < m + acc.length + 1 -> Path n s c (ringF s c m acc) /\ s (lastN (ringF s c m acc)) = c
 | 0, acc, p, h => by
  refine ⟨p, ?_⟩
  by_cases e : s (lastN acc) = c
  ·exact e
  ·have := (p.next o e).2
   exact (Om.k104 h this).elim
 | m + 1, acc, p, h => by
  rw [ringF]
  by_cases e : s (lastN acc) = c
  ·rw [if_pos e]
   exact ⟨p, e⟩
  ·rw [if_neg e]
   exact ringF_ok o m _ (p.next o e).1 (by rw [List.length_append]; show n < m + (acc.length + 1) + 1; exact Om.k103 h)
theorem ring_ok {n : Nat} {s : Nat -> Nat} {c : Nat} (o : One n s) (hc : c < n) : Path n s c (ringL s n c) /\ s (lastN (ringL s n c)) = c := ringF_ok o n [c] (.one hc) (by simp; exact Om.k102 )
theorem ring_closed {n : Nat} {s : Nat -> Nat} {c : Nat} (o : One n s) (hc : c < n) {x : Nat} (hx : x ∈ ringL s n c) : s x ∈ ringL s n c /\ ∃ y ∈ ringL s n c, s y = x := by
 obtain ⟨p, e⟩ := ring_ok o hc
 constructor
 ·generalize ringL s n c = acc at p e hx
  have go : ∀ {acc : List Nat}, Path n s c acc -> ∀ x ∈ acc, x = lastN acc \/ s x ∈ acc := by
   intro acc p
   induction p with
   | one _ => intro x hx; exact .inl (List.mem_singleton.mp hx)
   | @more acc p h ih =>
    intro x hx
    rw [lastN_app]
    rcases List.mem_append.mp hx with hx | hx
    ·rcases ih x hx with z | z
     ·exact .inr (by rw [z]; simp)
     ·exact .inr (List.mem_append_left _ z)
    ·exact .inl (List.mem_singleton.mp hx)
  rcases go p x hx with z | z
  ·rw [z, e]
   exact p.head_mem
  ·exact z
 ·by_cases h : x = c
  ·exact ⟨_, p.last_mem, e.trans h.symm⟩
  ·obtain ⟨y, hy, _, hs⟩ := p.pred x hx h
   exact ⟨y, hy, hs⟩
end My
namespace My
open PySem L2 PySem.W
noncomputable def mxP (p : List Nat) : Nat := match p with
 | [] => 0
 | x :: r => (x :: r).foldl Nat.max 0 + 1
noncomputable def rp (n : Nat) : Nat -> List (List Nat)
 | 0 => [[]]
 | k + 1 => (rp n k).flatMap fun p => (List.range' (mxP p) (n - mxP p)).map fun x => p ++ [x]
noncomputable def subB (n b : Nat) : List Nat := (List.range n).filter fun j => decide (b / 2 ^ j % 2 = 1)
noncomputable def SB (n k : Nat) : List (List Nat) := ((List.range (2 ^ n)).map (subB n)).filter fun p => decide (p.length = k)
noncomputable def toZ (l : List Nat) : List Int := l.map fun (c : Nat) => (c : Int)
noncomputable def SZ (n k : Nat) : List (List Int) := (SB n k).map toZ
noncomputable def chk (n k : Nat) : Bool := match runT (SZ n k).length (fun i j => lexB ((SZ n k).getD i []) ((SZ n k).getD j [])) (kas_sort (SZ n k).length) with
 | some p => decide (p.size = (SZ n k).length) && (p.toList.all fun i => decide (i < (SZ n k).length)) && decide ((p.toList.map fun i => (SB n k).getD i []) = rp n k)
 | none => false
theorem chk_all : ∀ n, n < 7 -> ∀ k, k < n -> 2 <= k -> chk n k = true := by decide +kernel
theorem sorted_picks {n k : Nat} (h6 : n <= 6) (hk : k < n) (h2 : 2 <= k) : ∃ p : Array Nat, runT (SZ n k).length (fun i j => lexB ((SZ n k).getD i []) ((SZ n k).getD j [])) (kas_sort (SZ n k).length) = some p /\ p.size = (SZ n k).length /\ (∀ i ∈ p.toList, i < (SZ n k).length) /\ (p.toList.map fun i => (SB n k).getD i []) = rp n k := by
 have h := chk_all n (by exact Om.f3 ‹_›) k hk h2
 unfold chk at h
 split at h
 ·next p hp =>
  rw [Bool.and_eq_true, Bool.and_eq_true, decide_eq_true_eq, decide_eq_true_eq, List.all_eq_true] at h
  exact ⟨p, hp, h.1.1, fun i hi => of_decide_eq_true (h.1.2 i hi), h.2⟩
 ·cases h
theorem SB_many : ∀ n, n < 7 -> ∀ k, k < n -> 2 <= k -> decide (2 <= (SB n k).length) = true /\ decide ((SB n k).length < 64) = true := by decide +kernel
theorem SB_len {n k : Nat} : ∀ p ∈ SB n k, p.length = k := fun p hp => of_decide_eq_true (List.mem_filter.mp hp).2
theorem rp_ok : ∀ n, n < 7 -> ∀ k, k < 7 -> ((rp n k).all fun p => decide (p.length = k) && decide (p.Nodup) && p.all fun x => decide (x < n)) = true := by decide +kernel
structure Pick (n k : Nat) (p : List Nat) : Prop where
 len : p.length = k
 nd : p.Nodup
 lt : ∀ x ∈ p, x < n
theorem rp_pick {n k : Nat} (h6 : n <= 6) (hk : k <= 6) {p : List Nat} (hp : p ∈ rp n k) : Pick n k p := by
 have h := rp_ok n (by exact Om.f3 ‹_›) k (by exact Om.f3 ‹_›)
 rw [List.all_eq_true] at h
 have h1 := h p hp
 rw [Bool.and_eq_true, Bool.and_eq_true, decide_eq_true_eq, decide_eq_true_eq, List.all_eq_true] at h1
 exact ⟨h1.1.1, h1.1.2, fun x hx => of_decide_eq_true (h1.2 x hx)⟩
theorem rp_few : ∀ n, n < 7 -> ∀ k, k < 7 -> decide ((rp n k).length <= 20) = true := by decide +kernel
end My
namespace HT
open PySem PyProof.Rows
section
variable {prog : Program} {w : World} {A : Around} {E : Value -> Shared -> Prop} {s : Shared}
theorem adjust_rev (n : Nat) : Builtin.Slice.sliceAdjust none none (-1) (n : Int) = ((n : Int) - 1, -1) := rfl
theorem places_rev (n : Nat) : Builtin.Slice.slicePlaces ((n : Int) - 1) (-1) (-1) = n := by
 unfold Builtin.Slice.slicePlaces
 have h1 : ¬ ((-1 : Int) > 0) := by exact Om.k101 
 simp only [h1, if_false]
 rw [show (- -1 : Int) = 1 by decide, Int.ediv_one]
 split <;> omega
theorem sliceApplied_rev {sl : Addr} {vs : Value} {n : Nat} {Q : Int × Int × Nat -> Shared -> Prop} (hs : s.heap.IsSliceOf sl .none .none vs) (ps : IsPart vs (some (-1)))
  (h : Q ((n : Int) - 1, -1, n) s) : wpAny (model prog w) A (Builtin.Slice.sliceApplied (.ref sl) (pure (n : Int))) Q E s := by
 obtain ⟨os, hos, hcs, hds⟩ := id hs
 unfold Builtin.Slice.sliceApplied Builtin.Slice.sliceFields
 refine wpAny_bind (wpAny_bind (wpAny_field hos hds (x := .none) rfl (wpAny_bind (wpAny_field hos hds (x := .none) rfl (wpAny_bind (wpAny_field hos hds (x := vs) rfl (wpAny_pure ?_)))))))
 refine wpAny_bind (slicePart_ ps ?_)
 show wpAny _ _ (if ((-1 : Int) == 0) = true then _ else _) _ _ s
 rw [if_neg (by decide)]
 refine wpAny_bind (slicePart_none (wpAny_bind (slicePart_none (wpAny_bind (wpAny_pure ?_)))))
 show wpAny _ _ (match Builtin.Slice.sliceAdjust none none (-1) (n : Int) with | (lo, hi) => pure (lo, (-1 : Int), Builtin.Slice.slicePlaces lo hi (-1))) _ _ s
 rw [adjust_rev n]
 show wpAny _ _ (pure ((n : Int) - 1, (-1 : Int), Builtin.Slice.slicePlaces ((n : Int) - 1) (-1) (-1))) _ _ s
 rw [places_rev]
 exact wpAny_pure h
theorem pick_rev (xs : Array Value) : ((List.range xs.size).filterMap fun (m : Nat) => xs[((xs.size : Int) - 1 + (m : Int) * (-1)).toNat]?).toArray = xs.toList.reverse.toArray := by
 have e : (List.range xs.size).filterMap (fun (m : Nat) => xs[((xs.size : Int) - 1 + (m : Int) * (-1)).toNat]?) = ((List.range xs.size).map (fun k => xs.size - 1 - k)).filterMap (xs[·]?) := by
  rw [List.filterMap_map]
  refine congrArg (fun f => List.filterMap f (List.range xs.size)) (funext fun m => ?_)
  show xs[((xs.size : Int) - 1 + (m : Int) * (-1)).toNat]? = xs[xs.size - 1 - m]?
  rw [show ((xs.size : Int) - 1 + (m : Int) * (-1)).toNat = xs.size - 1 - m by omega]
 rw [e, PySem.W.krv_range, List.filterMap_reverse, PySem.W.krv_all]
theorem getItem_tuple_rev {t sl : Addr} {items : Array Value} {vs : Value} {Q : Value -> Shared -> Prop} (ht : IsTup s.heap t items) (hs : s.heap.IsSliceOf sl .none .none vs) (ps : IsPart vs (some (-1)))
  (h : Q (.ref s.heap.objs.size) { s with heap := s.heap.push { cls := .type "tuple", data := .seq items.toList.reverse.toArray } })
  (hsz : items.size <= sizeLine) : wpAny (model prog w) A (getItem (.ref t) (.ref sl)) Q E s := by
 have htake : sizeOk (.seq items.toList.reverse.toArray) := by
  show items.toList.reverse.toArray.size <= sizeLine
  rw [List.size_toArray, List.length_reverse, Array.length_toList]
  assumption
 obtain ⟨os, hos, hcs, hds⟩ := id hs
 have hTs : s.TypeIs (.ref sl) "slice" := ⟨os, hos, hcs⟩
 unfold getItem
 try with_reducible refine wpAny_holding ?_
 first | refine wpAny_bind (wpAny_pure ?_) | skip
 refine wpAny_bind (wpAny_sequenceKey ht.typeIs (by decide) ?_)
 refine wpAny_bind (wpAny_callSpecial?_slot (name := Str.ofString "__getitem__") ht.typeIs PyProof.Rows.slot_tuple_getitem
  (wpAny_call_entry PyProof.Rows.slot_tuple_getitem ht.typeIs entry_tuple_getitem ?_ (args_tuple_getitem _ _)))
 show wpAny _ _ (Builtin.Tuple.tupleItemsOf (.ref t) >>= _) _ _ s
 refine wpAny_bind (tupleItemsOf_ ht ?_)
 refine wpAny_bind (wpAny_typeOf hTs ?_)
 rw [if_pos (by decide)]
 refine wpAny_bind (sliceApplied_rev hs ps ?_)
 have hno : ¬ ((((items.size : Int) - 1) == 0 && (-1 : Int) == 1 && items.size == items.size) = true) := by
  intro q
  rw [Bool.and_eq_true, Bool.and_eq_true] at q
  exact absurd q.1.2 (by decide)
 show wpAny _ _ (if (((items.size : Int) - 1) == 0 && (-1 : Int) == 1 && items.size == items.size) = true then _ else _) _ _ s
 rw [if_neg hno, pick_rev]
 first
  | exact wpAny_bind (m := Builtin.Tuple.tupleExact _) (wpAny_newObj_type (wpAny_pure ⟨_, rfl, wpAny_pure h⟩) htake)
  | exact wpAny_bind (m := Builtin.Tuple.tupleExact _) (wpAny_newObj_type (wpAny_bind (wpAny_pure (wpAny_pure ⟨_, rfl, wpAny_pure h⟩))) htake)
  | exact wpAny_bind (wpAny_bind (m := Builtin.Tuple.tupleExact _) (wpAny_newObj_type (wpAny_pure (wpAny_pure ⟨_, rfl, wpAny_pure h⟩)) htake))
  | exact wpAny_bind (wpAny_bind (m := Builtin.Tuple.tupleExact _) (wpAny_newObj_type (wpAny_pure ⟨_, rfl, wpAny_pure h⟩) htake))
end
end HT
namespace L2
open PySem PySem.Spec PyProof.Rows
noncomputable def tRevT (K : PySem.W.Frag) (te : TE) (ts : TO) : TE := fun σ H Q => te σ H fun x H1 => ts σ H1 fun o H2 => o = some (-1) /\ ∃ a xs, x = .ref a /\ SqT K H2 a xs /\ ∀ p, H2 p = none -> Q (.ref p) (upd H2 p (.tup xs.reverse))
theorem pe_revT {X : Cx} {e : Expr} {te : TE} {st : Expr} {ts : TO} {pos p2 : Pos} (K : PySem.W.Frag) (he : PE X e te) (hst : PO X (some st) ts) (hK : X.K = K := by rfl) : PE X (.Subscript e (.Slice none none (some st) p2) pos) (tRevT K te ts) := by
 subst hK
 intro pins s σ H Q I h
 refine Subscript_ (thn (he pins s σ H _ I h) fun v s1 zz0 => ?_)
 obtain ⟨x, H1, I1, r1, q1⟩ := zz0
 refine wpAny_Slice ?_
 rw [evalPart_none]
 refine wpAny_pure (wpAny_pure (thn (hst pins s1 σ H1 _ I1 q1) fun vs s2 zz0 => ?_))
 obtain ⟨o, H2, I2, pk, q2⟩ := zz0
 obtain ⟨rfl, a, xs, rfl, hx, q⟩ := q2
 cases r1
 have I4 : Inv X pins σ H2 { s2 with heap := s2.heap.push { cls := .type "slice", data := .fields #[.none, .none, vs] } } := I2.kept (t' := s2.toks) fun b ob q => Heap.get?_push_of_some _ q
 obtain ⟨its, r, ht, hz⟩ := I4.tuple hx
 have hlen := r.length
 show wpAny (model X.prog X.w) X.A (subscriptTail e (.Slice none none (some st) p2) (.ref a) (.ref s2.heap.objs.size)) (EP X pins σ Q) X.xe { s2 with heap := s2.heap.push { cls := .type "slice", data := .fields #[.none, .none, vs] } }
 refine tail_any (ops := [.ref a, .ref s2.heap.objs.size]) ht.typeIs PyProof.Rows.slot_tuple_getitem.lookup ?_ (by with_unfolding_all rfl)
 refine HT.getItem_tuple_rev ht (Heap.IsSliceOf.new ..) pk ?_ (by rw [List.size_toArray] <;> exact Om.y2 ‹_› ‹_› rfl)
 refine ⟨.ref _, _, I4.laid (t' := s2.toks) (o := .tup xs.reverse) (fun b ob q => Heap.get?_push_of_some _ q) (Nat.le_refl _) ?_, rfl, q _ (I4.hok.fresh (Nat.le_refl _))⟩
 exact ⟨by rw [List.length_reverse]; exact hz, _, vals_rev r, IsTupN.new _ _⟩
theorem vals_refs : ∀ {ps : List Addr} {us : List Value}, Vals (ps.map V.ref) us -> us = ps.map Value.ref
 | [], _, .nil => rfl
 | p :: ps, _, .cons r t => by
  cases r
  rw [vals_refs t]
  rfl
noncomputable def rNotInR (K : PySem.W.Frag) (d : Nat) : R2 := fun x y H Q => ∃ (l : Addr) (ps : List Addr) (e : Addr -> Bool), y = .ref l /\ SqL K H l (ps.map V.ref) /\ (∀ p ∈ ps, EqD K H d (.ref p) x (e p)) /\ Q (.bl (!ps.any e)) H
noncomputable def atRef (e : Addr -> Bool) : Value -> Bool
 | .ref a => e a
 | _ => false
theorem op_notInR {X : Cx} {d : Nat} (hu : X.A.units + 1 + d < cLine) (K : PySem.W.Frag) (hK : X.K = K := by rfl) : OpR X (compareOp .NotIn) (rNotInR K d) := by
 subst hK
 intro pins s σ H x y v u Q I rx ry h
 obtain ⟨l, ps, e, rfl, hl, he, q⟩ := h
 cases ry
 obtain ⟨its, r, p, _⟩ := I.list hl
 have hits := vals_refs r
 subst hits
 refine SeqAt.notIn_listAt (atRef e) p.isList (fun y hy => ?_) ?_
 ·obtain ⟨b, hb, rfl⟩ := List.mem_map.mp (List.mem_toArray.mp hy)
  exact ((he b hb).all I (A := X.A.in1) rfl rx (by show X.A.units + 1 + d < cLine; exact hu)).1
 ·rw [show (ps.map Value.ref).toArray.any (atRef e) = ps.any e by rw [List.any_toArray, List.any_map]; rfl]
  exact ⟨.bl _, H, I, rfl, q⟩
end L2
namespace My
open PySem L2
noncomputable def top (i : Nat) : Stmt := PySem.Challenge.pw_latinclose_k34_no_part.main.body.getD i (.Pass ⟨0, 0, 0, 0⟩)
noncomputable abbrev sWith : Stmt := top 14
noncomputable abbrev sThingsIn : Stmt := top 16
noncomputable abbrev sIsPick : Stmt := top 17
noncomputable abbrev sIsPart : Stmt := top 18
noncomputable abbrev sPutIn : Stmt := top 19
noncomputable abbrev sCell : Stmt := top 21
noncomputable abbrev sDigits : Stmt := top 22
noncomputable abbrev sRowOn : Stmt := top 23
noncomputable abbrev sSquare : Stmt := top 24
noncomputable abbrev sTable : Stmt := top 25
noncomputable abbrev sRing : Stmt := top 26
noncomputable abbrev sExchanged : Stmt := top 27
noncomputable abbrev sMade : Stmt := top 28
noncomputable abbrev sThings : Stmt := top 29
noncomputable abbrev sSome : Stmt := top 30
noncomputable abbrev sDue : Stmt := top 31
noncomputable abbrev sWhole : Stmt := top 32
noncomputable abbrev sIsSquare : Stmt := top 33
noncomputable abbrev sBits : Stmt := top 34
noncomputable abbrev sPair : Stmt := top 35
noncomputable abbrev sTold : Stmt := top 36
noncomputable abbrev sLaw : Stmt := top 37
structure Blt (mg : Str -> Option Value) : Prop where
 len : mg "len" = none
 range : mg "range" = none
 tuple : mg "tuple" = none
 list : mg "list" = none
 isin : mg "isinstance" = none
 int : mg "int" = none
 bool : mg "bool" = none
 sorted : mg "sorted" = none
 set : mg "set" = none
 zip : mg "zip" = none
 verr : mg "ValueError" = none
end My
namespace My
open PySem L2
inductive SpCellI (K : PySem.W.Frag) (vs : List V) (H : Hp) (Q : VK) : Prop where
 | mk (a : Addr) (ns : List Int) (k : Nat) (_ : vs = [.ref a, .int k]) (_ : SqL K H a (ns.map V.int)) (_ : ∀ z : Int, Q (.int z) H) : SpCellI K vs H Q
noncomputable def spCell (K : PySem.W.Frag) : Sp := fun vs H Q _ => SpCellI K vs H Q
inductive SpDigitsI (vs : List V) (H : Hp) (Q : VK) : Prop where
 | mk (cell : Int) (m : Nat) (z : Int) (_ : vs = [.int cell, .int (m : Int), .int z]) (_ : m <= 1000) (_ : 0 < z) (_ : z < 1073741824) (_ : ∀ l H' (ns : List Int), H l = none -> Same H H' -> H' l = some (.lst (ns.map V.int)) -> ns.length = m -> (∀ x ∈ ns, 0 <= x /\ x < z) -> Q (.ref l) H') : SpDigitsI vs H Q
noncomputable def spDigits : Sp := fun vs H Q _ => SpDigitsI vs H Q
section
variable {P : Program} {w : World} {K : PySem.W.Frag} {mg : Str -> Option Value} {base : Heap}
theorem scCell : FnScope ["_law_script", "_law_k"] ["_law_script", "_law_k"] (defScope sCell) := ⟨rfl, rfl, rfl, by decide +kernel, rfl, by decide +kernel, by decide +kernel⟩
theorem ok_cell {f : Addr} {fd : FuncData} (F : Fun K "_law_cell_at" "_law_cell_at" sCell f fd) (T : Blt mg) : FnOk P w K mg base CX0 1 f fd ["_law_script", "_law_k"] (spCell K) := by
 refine F.ok scCell (fun vs H Q E h => ?_) (fun cdv A outer s H vs Q E hr h => ?_)
 ·obtain ⟨a, ns, k, rfl, _⟩ := h
  rfl
 ·obtain ⟨a, ns, k, rfl, hS, q⟩ := h
  refine ⟨_, pss_cons (ps_if (pt_cmpR op_lt (pv 1) (pe_callB (call_lenK K) rfl T.len PySem.boot_len (pa_cons (pv 0) pa_nil)) (nomark _)) (pss_one (ps_ret (pe_ix ix_list (pv 0) (pv 1) (fun _ _ => rfl)))) pss_nil)
   (pss_one (ps_ret pe_int)), ?_⟩
  refine ⟨_, rfl, _, rfl, a, _, rfl, .inl hS, _, _, rfl, rfl, _, rfl, ?_⟩
  refine ite2 (fun hc => ?_) (fun _ => q 0)
  have hlt : k < ns.length := by
   have := of_decide_eq_true hc
   rw [List.length_map] at this
   omega
  have hat : (ns.map V.int)[k]? = some (.int ns[k]) := by rw [List.getElem?_map]; simp [hlt]
  exact ⟨_, rfl, _, rfl, a, _, _, _, rfl, rfl, hS, atI_of hat, q _⟩
theorem mod31 (x : Int) : -(2 ^ 64) < x % 2147483647 /\ x % 2147483647 < 2 ^ 64 :=
 ⟨Int.lt_of_lt_of_le (by decide) (Int.emod_nonneg _ (by decide)), Int.lt_trans (Int.emod_lt_of_pos _ (by decide)) (by decide)⟩
theorem scDigits : FnScope ["_law_cell", "_law_many", "_law_most", "_law_found", "_law_number", "_law_k", "_law_mixed"] ["_law_cell", "_law_many", "_law_most"] (defScope sDigits) := ⟨rfl, rfl, rfl, by decide +kernel, rfl, by decide +kernel, by decide +kernel⟩
theorem ok_digits {f : Addr} {fd : FuncData} (F : Fun K "_law_digits" "_law_digits" sDigits f fd) (T : Blt mg) : FnOk P w K mg base CX0 1 f fd ["_law_cell", "_law_many", "_law_most"] spDigits := by
 refine F.ok scDigits (fun vs H Q E h => ?_) (fun cdv A outer s H vs Q E hr h => ?_)
 ·obtain ⟨_, _, _, rfl, _⟩ := h
  rfl
 ·obtain ⟨cell, m, z, rfl, hm, hz, hz2, k⟩ := h
  refine' ⟨_, pss_cons (ps_set (i := 3) scDigits.nd rfl (Or.inl rfl) (pe_lst pa_nil)) (pss_cons (ps_set (i := 4) scDigits.nd rfl (Or.inl rfl) (pe_op op_fdiv (pv 0) pe_int))
   (pss_cons (ps_for PassesOwn.never rfl (pi_range1 rfl T.range (pa_cons (pv 1) pa_nil)) (pg_name (i := 5) scDigits.nd rfl (Or.inl rfl)) (pss_one (ps_if (pt_cmpR op_eq (pe_op op_mod (pv 0) pe_int) pe_int (nomark _)) (pss_cons ?a0 (pss_one ?a1)) (pss_cons ?b0 (pss_cons ?b1 (pss_one ?b2))))))
   (pss_one (ps_ret (pv 3))))), ?rd⟩
  case a0 => exact ps_expr (pe_bm PySem.F.plainAttrs_list PySem.F.slot_list_append PySem.F.type_list_append mt_append (pv 3) (pa_cons (pe_op op_mod (pv 4) (pv 2)) pa_nil))
  case a1 => exact ps_set (i := 4) scDigits.nd rfl (Or.inl rfl) (pe_op op_fdiv (pv 4) (pv 2))
  case b0 => exact ps_set (i := 6) scDigits.nd rfl (Or.inl rfl) (pe_op op_mod (pe_op op_mul (pe_op op_add (pe_op op_add (pe_op op_mod (pv 4) pe_int) (pe_op op_mul pe_int (pv 5))) pe_int) pe_int) pe_int)
  case b1 => exact ps_set (i := 6) scDigits.nd rfl (Or.inl rfl) (pe_op op_mod (pe_op op_add (pe_op op_add (pe_op op_mul (pv 6) (pv 6)) (pe_op op_mul pe_int (pv 5))) pe_int) pe_int)
  case b2 => exact ps_expr (pe_bm PySem.F.plainAttrs_list PySem.F.slot_list_append PySem.F.type_list_append mt_append (pv 3) (pa_cons (pe_op op_mod (pe_op op_fdiv (pe_op op_mod (pe_op op_mul (pv 6) pe_int) pe_int) pe_int) (pv 2)) pa_nil))
  case rd =>
   refine ⟨Nat.zero_le _, fun l hl => ?_⟩
   have sm1 : Same H (upd H l (.lst [])) := Same.new hl
   refine ⟨_, rfl, _, _, rfl, rfl, ⟨by decide, by decide⟩, ?_⟩
   refine ⟨_, rfl, (m : Int), rfl, by exact Om.c2, by exact Om.c1 ‹_› rfl, ?_⟩
   rw [Int.toNat_natCast]
   refine for_range (lo := 0) (n := m) (fun i σ H2 => ∃ (num : Int) (kk mx : Option V) (ns : List Int), σ = [some (.int cell), some (.int (m : Int)), some (.int z), some (.ref l), some (.int num), kk, mx] /\ H2 l = some (.lst (ns.map V.int)) /\ Same H H2 /\ ns.length = i /\ ∀ x ∈ ns, 0 <= x /\ x < z)
    ⟨cell / 2, none, none, [], rfl, upd_same, sm1, rfl, fun x hx => by cases hx⟩ ?_ ?_
   ·rintro i σ H2 hi ⟨num, kk, mx, ns, rfl, hl2, sm2, hlen, hb⟩
    rw [Int.zero_add]
    have hls : (ns.map V.int).length < sizeLine := by rw [List.length_map]; exact small1000 (by exact Om.b5 ‹_› ‹_› ‹_› rfl)
    have fin : ∀ (y : Int), 0 <= y -> y < z -> ∀ (num' : Int) (mx' : Option V), ∃ (num : Int) (kk mx : Option V) (ns_1 : List Int), [some (V.int cell), some (.int (m : Int)), some (.int z), some (.ref l), some (.int num'), some (.int (i : Int)), mx'] = [some (.int cell), some (.int (m : Int)), some (.int z), some (.ref l), some (.int num), kk, mx] /\
      (upd H2 l (.lst (ns.map V.int ++ [.int y]))) l = some (.lst (ns_1.map V.int)) /\ Same H (upd H2 l (.lst (ns.map V.int ++ [.int y]))) /\ ns_1.length = i + 1 /\ ∀ x ∈ ns_1, 0 <= x /\ x < z := fun y h0 h1 num' mx' => by
     refine ⟨num', _, mx', ns ++ [y], rfl, ?_, sm2.upd_new hl, by rw [List.length_append, hlen]; rfl, fun x hx => ?_⟩
     ·rw [upd_same, List.map_append]
      rfl
     ·rcases List.mem_append.mp hx with hx | hx
      ·exact hb x hx
      ·rw [List.mem_singleton.mp hx]
       exact ⟨h0, h1⟩
    refine ⟨_, rfl, _, _, rfl, rfl, (by show (0 : Int) < 2; decide), rfl, _, rfl, ?_⟩
    refine ite2 (fun _ => ?_) (fun _ => ?_)
    ·refine ⟨_, rfl, .inl ⟨rfl, _, SqL.of hl2⟩, _, rfl, _, rfl, _, _, rfl, rfl, hz, l, _, _, rfl, rfl, hl2, hls, ?_⟩
     refine ⟨_, rfl, _, rfl, _, _, rfl, rfl, ⟨hz, hz2⟩, ?_⟩
     exact fin _ (Int.emod_nonneg _ (by exact Om.k100 hz hz2)) (Int.emod_lt_of_pos _ hz) _ _
    ·refine ⟨_, rfl, _, _, rfl, rfl, (by show (0 : Int) < 2147483629; decide), _, rfl, _, _, rfl, rfl, .inl ⟨by decide, by decide⟩, _, _, rfl, rfl, _, _, rfl, rfl, _, _, rfl, rfl, .inr ⟨by decide, by decide⟩, _, _, rfl, rfl, (by show (0 : Int) < 2147483647; decide), ?_⟩
     refine ⟨_, rfl, _, rfl, _, _, rfl, rfl, .inl (mod31 _), _, rfl, _, _, rfl, rfl, .inl ⟨by decide, by decide⟩, _, _, rfl, rfl, _, _, rfl, rfl, _, _, rfl, rfl, (by show (0 : Int) < 2147483629; decide), ?_⟩
     refine ⟨_, rfl, .inl ⟨rfl, _, SqL.of hl2⟩, _, rfl, _, _, rfl, rfl, .inr ⟨by decide, by decide⟩, _, _, rfl, rfl, (by show (0 : Int) < 2147483587; decide), _, _, rfl, rfl, ⟨by decide, by decide⟩, _, rfl, _, _, rfl, rfl, hz, l, _, _, rfl, rfl, hl2, hls, ?_⟩
     exact fin _ (Int.emod_nonneg _ (by exact Om.k100 hz hz2)) (Int.emod_lt_of_pos _ hz) _ _
   ·rintro σ H2 ⟨num, kk, mx, ns, rfl, hl2, sm2, hlen, hb⟩
    exact ⟨_, rfl, k l H2 ns hl sm2 hl2 hlen hb⟩
end
end My
namespace My
open PySem L2
noncomputable def LLs (H : Hp) (a : Addr) (L : List (List Int)) : Prop := ∃ ps : List Addr, H a = some (.lst (ps.map V.ref)) /\ Paired (fun p l => H p = some (.lst (l.map V.int))) ps L
theorem LLs.same {c : Addr} {H H1 : Hp} {L : List (List Int)} (g : LLs H c L) (x : Same H H1) : LLs H1 c L :=
 let ⟨ps, h, r⟩ := g
 ⟨ps, x _ _ h, Paired.mapP r fun _ _ z => x _ _ z⟩
theorem inV_ints (t : Int) : ∀ xs : List Int, inV (.int t) (xs.map V.int) = decide (t ∈ xs)
 | [] => rfl
 | x :: xs => by
  have ih := inV_ints t xs
  unfold inV at ih ⊢
  rw [List.map_cons, List.any_cons, ih]
  show ((x == t) || _) = _
  rw [Bool.eq_iff_iff]
  simp only [Bool.or_eq_true, beq_iff_eq, decide_eq_true_eq, List.mem_cons]
  exact ⟨fun h => h.elim (fun e => .inl e.symm) .inr, fun h => h.elim (fun e => .inl e.symm) .inr⟩
theorem col_of {R : List (List Int)} {c : Nat} : ((List.range R.length).map fun i => V.int ((R.getD i []).getD c 0)) = (colL R c).map V.int := by
 unfold colL
 refine List.ext_getElem? fun i => ?_
 rw [List.map_map, List.getElem?_map, List.getElem?_map]
 by_cases h : i < R.length
 ·rw [List.getElem?_range h, List.getElem?_eq_getElem h]
  simp [List.getD_eq_getElem?_getD, List.getElem?_eq_getElem h]
 ·rw [List.getElem?_eq_none (by simpa using h), List.getElem?_eq_none (by simpa using h)]
  rfl
theorem filt_next {n : Nat} {A : List (List Int)} {row : List Int} : ((List.range n).filterMap fun j => if (decide (((j : Nat) : Int) ∉ row) && decide (((j : Nat) : Int) ∉ colL A row.length)) = true then some (V.int ((j : Nat) : Int)) else none) = (nextT n A row).map V.int := by
 unfold nextT rngI
 induction List.range n with
 | nil => rfl
 | cons j l ih =>
  rw [List.filterMap_cons, List.map_cons, List.filter_cons]
  cases h : (decide (((j : Nat) : Int) ∉ row) && decide (((j : Nat) : Int) ∉ colL A row.length)) with
  | true => rw [if_pos rfl, if_pos rfl, List.map_cons, ih]
  | false => rw [if_neg Bool.false_ne_true, if_neg Bool.false_ne_true, ih]
inductive SpRowOnI (k : Nat) (vs : List V) (H : Hp) (Q : VK) : Prop where
 | mk (aA ar at_ : Addr) (n : Nat) (A : List (List Int)) (row ts : List Int) (_ : vs = [.ref aA, .ref ar, .int (n : Int), .ref at_]) (_ : LLs H aA A) (_ : (∀ o ∈ A, o.length = n)) (_ : A.length <= 8) (_ : H ar = some (.lst (row.map V.int))) (_ : PRow n A row) (_ : n <= 8) (_ : H at_ = some (.lst (ts.map V.int))) (_ : ts.length = n) (_ : n - row.length < k) (_ : (∀ (p : Addr) (H' : Hp) (r : List Int), Same H H' -> H' p = some (.lst (r.map V.int)) -> OkRow n A r -> row <+: r -> Q (.ref p) H')) (_ : (∀ H', Same H H' -> (∀ r, OkRow n A r -> row <+: r -> False) -> Q .non H')) : SpRowOnI k vs H Q
noncomputable def spRowOn (k : Nat) : Sp := fun vs H Q _ => SpRowOnI k vs H Q
section
variable {P : Program} {w : World} {K : PySem.W.Frag} {mg : Str -> Option Value} {base : Heap}
theorem scRowOn : FnScope ["_law_above", "_law_row", "_law_size", "_law_turns", "_law_ahead", "_law_some_here", "_law_k", "_law_found"] ["_law_above", "_law_row", "_law_size", "_law_turns"] (defScope sRowOn) := ⟨rfl, rfl, rfl, by decide +kernel, rfl, by decide +kernel, by decide +kernel⟩
theorem ok_rowOn {f : Addr} {fd : FuncData} (D : Dfn K mg "_law_row_on" sRowOn ["_law_above", "_law_row", "_law_size", "_law_turns"] f fd) (T : Blt mg) : ∀ k : Nat, FnOk P w K mg base CX0 k f fd ["_law_above", "_law_row", "_law_size", "_law_turns"] (spRowOn k)
 | 0 => ⟨fun vs H Q E h => by obtain ⟨_, _, _, _, _, _, _, rfl, _⟩ := h; rfl, fun A outer s H args us vs Q E _ _ _ _ h => by obtain ⟨_, _, _, _, _, _, _, rfl, _, _, _, _, _, _, _, _, z, _⟩ := h; exact absurd z (Nat.not_lt_zero _)⟩
 | k + 1 => by
  have G := ok_rowOn D T k
  refine D.F.ok scRowOn (fun vs H Q E h => ?_) (fun cdv A0 outer s H vs Q E hr h => ?_)
  ·obtain ⟨_, _, _, _, _, _, _, rfl, _⟩ := h
   rfl
  ·obtain ⟨aA, ar, at_, n, A, row, ts, rfl, hA, hAn, hA8, hrow, pr, h8, hts, htl, hk, q1, q2⟩ := h
   refine' ⟨_, pss_cons ?s0 (pss_cons ?s1 (pss_cons ?s2 (pss_cons (ps_for PassesOwn.never rfl ?i (pg_name (i := 6) scRowOn.nd rfl (Or.inl rfl)) (pss_cons ?b0 (pss_one ?b1))) (pss_one (ps_ret pe_non))))), ?rd⟩
   case s0 => exact ps_if (pt_cmpR op_eq (pe_callB (call_lenK K) rfl T.len PySem.boot_len (pa_cons (pv 1) pa_nil)) (pv 2) (nomark _)) (pss_one (ps_ret (pv 1))) pss_nil
   case s1 => exact ps_set (i := 4) scRowOn.nd rfl (Or.inr rfl) (pe_lc ["_law_one", "_law_row"] [none, some 1] rfl rfl (pi_listK K (pv 0)) (fun _ _ _ _ _ => pg_c 0) (fun _ _ _ _ _ => pts_nil) (fun _ _ _ _ _ => pe_ix (ix_listK K) (pv 0) (pe_callB (call_lenK K) rfl T.len PySem.boot_len (pa_cons (pv 1) pa_nil)) (fun _ _ => rfl)))
   case s2 => exact ps_lc (i := 5) ["_law_thing", "_law_row", "_law_ahead"] [none, some 1, some 4] scRowOn.nd rfl (Or.inl rfl) rfl rfl (pi_range1 rfl T.range (pa_cons (pv 2) pa_nil)) (fun _ _ _ _ _ => pg_c 0) (fun _ _ _ _ _ => pts_one (PW.pt (pw_and (pt_cmpR (op_notInK K) (pv 0) (pv 1) rfl) (pw_and1 (pt_cmpR (op_notInK K) (pv 0) (pv 2) rfl))))) (fun _ _ _ _ _ => pv 0)
   case i => exact pi_range1 rfl T.range (pa_cons (pe_callB (call_lenK K) rfl T.len PySem.boot_len (pa_cons (pv 5) pa_nil)) pa_nil)
   case b0 => exact ps_set (i := 7) scRowOn.nd rfl (Or.inl rfl) (pe_call G hr rfl D.m D.F.kp D.b .nil pass0 (pa_cons (pv 0) (pa_cons (pe_op op_cat (pv 1) (pe_lst (pa_cons (pe_ix ix_list (pv 5) (pe_op op_mod (pe_op op_add (pe_ix ix_list (pv 3) (pe_callB (call_lenK K) rfl T.len PySem.boot_len (pa_cons (pv 1) pa_nil)) (fun _ _ => rfl)) (pv 6)) (pe_callB (call_lenK K) rfl T.len PySem.boot_len (pa_cons (pv 5) pa_nil))) (fun _ _ => rfl)) pa_nil))) (pa_cons (pv 2) (pa_cons (pv 3) pa_nil)))))
   case b1 => exact ps_if (pt_cmp (pc_notN (pv 7))) (pss_one (ps_ret (pv 7))) pss_nil
   case rd =>
    have hrl : (row.map V.int).length = row.length := List.length_map _
    refine ⟨_, rfl, ar, _, rfl, .inl (SqL.of hrow), _, rfl, rfl, _, rfl, ?_⟩
    rw [hrl]
    refine ite2 (fun hc => ?_) (fun hc => ?_)
    ·have e : row.length = n := by
      have e := of_decide_eq_true hc
      injection e with e
      exact Om.e1 ‹_›
     exact ⟨_, rfl, q1 ar H row (Same.refl H) hrow (pr.full e) (List.prefix_refl _)⟩
    have hlt : row.length < n := by
     have h1 : row.length ≠ n := fun e => hc (decide_eq_true (by rw [e]))
     have := pr.len
     omega
    obtain ⟨ps, hps, hPs⟩ := id hA
    have hpl : (ps.map V.ref).length = A.length := by rw [List.length_map, hPs.length]
    refine ⟨_, rfl, aA, rfl, ⟨_, SqL.of hps⟩, fun l5 hl5 => comp_pure (fun i => some (V.int ((A.getD i []).getD row.length 0))) (fun σ => ∃ v, σ = [v, some (.ref ar)]) (wlk_list (xs := ps.map V.ref)) (by rw [hpl]; exact small6 (by exact Om.b1 ‹_› rfl)) hl5 (fun H' sm => SqL.of (sm _ _ hps)) ⟨none, rfl⟩ ?_ ?_⟩
    ·rintro i x σ H' R' hi ⟨v, rfl⟩ sm kk
     rw [List.getElem?_map] at hi
     cases hpi : ps[i]? with
     | none => rw [hpi] at hi; cases hi
     | some p =>
      rw [hpi] at hi
      cases hi
      obtain ⟨o, ho, hp⟩ := Paired.getL hPs hpi
      have hol : o.length = n := hAn o (List.mem_of_getElem? ho)
      have hat : (o.map V.int)[row.length]? = some (.int ((A.getD i []).getD row.length 0)) := by
       rw [List.getElem?_map, List.getElem?_eq_getElem (by exact Om.a1 ‹_› ‹_›)]
       simp [List.getD_eq_getElem?_getD, ho, List.getElem?_eq_getElem (show row.length < o.length by exact Om.a1 ‹_› ‹_›)]
      exact ⟨_, rfl, _, rfl, ar, row.map V.int, rfl, .inl (SqL.of (sm _ _ hrow)), p, o.map V.int, (row.length : Int), _, rfl, by rw [hrl], SqL.of (sm _ _ hp), atI_of hat, kk _ _ ⟨_, rfl⟩ (Same.refl _)⟩
    intro H5 s5 hl5'
    rw [filterMap_some, hpl, col_of] at hl5'
    have hrow5 := s5 _ _ hrow
    refine ⟨_, rfl, (n : Int), rfl, by exact Om.c2, by exact Om.c1 ‹_› rfl, fun l6 hl6 => ?_⟩
    rw [Int.toNat_natCast]
    refine comp_pure (fun j => if (decide (((j : Nat) : Int) ∉ row) && decide (((j : Nat) : Int) ∉ colL A row.length)) = true then some (V.int ((j : Nat) : Int)) else none) (fun σ => ∃ v, σ = [v, some (.ref ar), some (.ref l5)]) (wlk_range (n := n)) (by rw [rng_len]; exact small6 (by exact Om.b1 ‹_› rfl)) hl6 (fun _ _ => trivial) ⟨none, rfl⟩ ?_ ?_
    ·rintro i x σ H' R' hi ⟨v, rfl⟩ sm kk
     obtain ⟨hin, rfl⟩ := rng_get hi
     have kk' := fun v' => kk [v', some (.ref ar), some (.ref l5)] H' ⟨v', rfl⟩ (Same.refl _)
     refine ⟨_, rfl, _, rfl, ar, row.map V.int, rfl, .inl (SqL.of (sm _ _ hrow5)), rfl, map_ints_flat row, _, rfl, ?_⟩
     have e1 : (if true = true then !inV (.int (i : Int)) (row.map V.int) else inV (.int (i : Int)) (row.map V.int)) = decide ((i : Int) ∉ row) := by rw [if_pos rfl, inV_ints]; simp
     rw [e1]
     refine ite2 (fun hc3 => ?_) (fun hc3 => ?_)
     rotate_left
     ·rw [Bool.not_eq_true] at hc3
      rw [hc3, Bool.false_and, if_neg Bool.false_ne_true] at kk'
      exact iteF (kk' _)
     refine ⟨_, rfl, _, rfl, l5, (colL A row.length).map V.int, rfl, .inl (SqL.of (sm _ _ hl5')), rfl, map_ints_flat _, _, rfl, ?_⟩
     have e2 : (if true = true then !inV (.int (i : Int)) ((colL A row.length).map V.int) else inV (.int (i : Int)) ((colL A row.length).map V.int)) = decide ((i : Int) ∉ colL A row.length) := by rw [if_pos rfl, inV_ints]; simp
     rw [e2]
     rw [hc3, Bool.true_and] at kk'
     refine ite2 (fun hc4 => ?_) (fun hc4 => ?_)
     ·rw [if_pos hc4] at kk'
      exact ⟨_, rfl, kk' _⟩
     ·rw [if_neg hc4] at kk'
      exact kk' _
    intro H6 s6 hl6'
    rw [rng_len, filt_next] at hl6'
    have sH6 := s5.trans s6
    have hsl : ((nextT n A row).map V.int).length = (nextT n A row).length := List.length_map _
    refine ⟨_, rfl, l6, _, rfl, .inl (SqL.of hl6'), _, rfl, by exact Om.c2, ?_, ?_⟩
    ·rw [hsl]
     have : (nextT n A row).length <= n := by
      unfold nextT
      refine Nat.le_trans (List.length_filter_le _ _) ?_
      rw [rngI_len]
      exact Nat.le_refl _
     omega
    rw [hsl, Int.toNat_natCast]
    have hts6 := sH6 _ _ hts
    have htat : (ts.map V.int)[row.length]? = some (.int (ts.getD row.length 0)) := by
     rw [List.getElem?_map, List.getElem?_eq_getElem (by exact Om.a1 ‹_› ‹_›)]
     simp [List.getD_eq_getElem?_getD, List.getElem?_eq_getElem (show row.length < ts.length by exact Om.a1 ‹_› ‹_›)]
    generalize ts.getD row.length 0 = t at htat
    refine for_range (lo := 0) (n := (nextT n A row).length) (fun i σ H7 => ∃ v6 v7 : Option V, σ = [some (.ref aA), some (.ref ar), some (.int (n : Int)), some (.ref at_), some (.ref l5), some (.ref l6), v6, v7] /\ Same H6 H7 /\ ∀ j : Nat, j < i -> ∀ x, (nextT n A row)[((t + (j : Int)) % ((nextT n A row).length : Int)).toNat]? = some x -> ∀ r, OkRow n A r -> row ++ [x] <+: r -> False)
     ⟨none, none, rfl, Same.refl _, fun j h => absurd h (Nat.not_lt_zero _)⟩ ?_ ?_
    ·rintro i σ H7 hi ⟨v6, v7, rfl, s7, hno⟩
     rw [Int.zero_add]
     have hlen0 : (0 : Int) < ((nextT n A row).length : Int) := by exact Om.k99 hsl hi
     obtain ⟨m, hm, hml⟩ : ∃ m : Nat, (t + (i : Int)) % ((nextT n A row).length : Int) = (m : Int) /\ m < (nextT n A row).length := by
      have h1 := Int.emod_nonneg (t + (i : Int)) (show ((nextT n A row).length : Int) ≠ 0 by exact Om.k98 hlen0)
      have h2 := Int.emod_lt_of_pos (t + (i : Int)) hlen0
      exact ⟨((t + (i : Int)) % ((nextT n A row).length : Int)).toNat, by exact Om.z1 ‹_›, by exact Om.k97 h1 h2⟩
     have hx : (nextT n A row)[m]? = some (nextT n A row)[m] := List.getElem?_eq_getElem hml
     have hxm : (nextT n A row)[m] ∈ nextT n A row := List.getElem_mem hml
     generalize (nextT n A row)[m] = x at hx hxm
     have hx' : ((nextT n A row).map V.int)[m]? = some (.int x) := by rw [List.getElem?_map, hx]; rfl
     have sH7 := sH6.trans s7
     refine ⟨_, rfl, _, rfl, _, rfl, _, rfl, _, rfl, ar, _, rfl, .inl (SqL.of (sH7 _ _ hrow)), at_, _, _, _, rfl, rfl, SqL.of (sH7 _ _ hts), by rw [hrl]; exact atI_of htat, _, rfl, _, _, rfl, rfl, _, rfl, l6, _, rfl, .inl (SqL.of (s7 _ _ hl6')), _, _, rfl, rfl, by rw [hsl]; exact hlen0, l6, _, _, .int x, rfl, rfl, SqL.of (s7 _ _ hl6'), ?_, (show 1 <= sizeLine from small6 (by decide)), fun l8 hl8 => ?_⟩
     ·show atI _ ((t + (i : Int)) % (((nextT n A row).map V.int).length : Int)) = _
      rw [hsl, hm]
      exact atI_of hx'
     have s8 : Same H7 (upd H7 l8 (.lst [.int x])) := Same.new hl8
     refine ⟨ar, l8, _, _, rfl, rfl, s8 _ _ (sH7 _ _ hrow), upd_same, by rw [hrl]; exact small6 (by simp; exact Om.b2 ‹_› ‹_› rfl), fun l9 hl9 => ?_⟩
     have s9 : Same (upd H7 l8 (.lst [.int x])) (upd (upd H7 l8 (.lst [.int x])) l9 (.lst (row.map V.int ++ [.int x]))) := Same.new hl9
     have s79 := s8.trans s9
     refine ⟨_, rfl, _, rfl, aA, l9, at_, n, A, row ++ [x], ts, rfl, hA.same (sH7.trans s79), hAn, hA8, by rw [upd_same, List.map_append]; rfl, pr.next hlt hxm, h8, s79 _ _ (sH7 _ _ hts), htl, by rw [List.length_append]; simp; exact Om.k96 htl hk hlt, fun p H8 r sA hp o pf => ?_, fun H8 sA hnone => ?_⟩
     ·refine ⟨_, rfl, _, rfl, iteT ⟨_, rfl, ?_⟩⟩
      exact q1 p H8 r (sH7.trans (s79.trans sA)) hp o (List.IsPrefix.trans (List.prefix_append _ _) pf)
     ·refine ⟨_, rfl, _, rfl, iteF ⟨_, _, rfl, s7.trans (s79.trans sA), fun j hj y hy r o pf => ?_⟩⟩
      by_cases e : j < i
      ·exact hno j e y hy r o pf
      ·have ej : j = i := by exact Om.k95 hj e
       subst ej
       rw [hm, Int.toNat_natCast, hx] at hy
       cases hy
       exact hnone r o pf
    ·rintro σ H7 ⟨v6, v7, rfl, s7, hno⟩
     refine q2 H7 (sH6.trans s7) fun r o pf => ?_
     obtain ⟨x, hx, pf2⟩ := next_of hlt o pf
     obtain ⟨i, hi, hxi⟩ := List.getElem_of_mem hx
     obtain ⟨j, hj, hje⟩ := turn_at (by exact Om.k94 hsl hi) t hi
     refine hno j hj x ?_ r o pf2
     rw [hje, Int.toNat_natCast, List.getElem?_eq_getElem hi, hxi]
end
end My
namespace My
open PySem L2
theorem ints_refs {r : List Int} {ps : List Addr} (h : r ≠ []) : r.map V.int ≠ ps.map V.ref := by
 cases r with
 | nil => exact absurd rfl h
 | cons x r => cases ps <;> intro e <;> cases e
theorem LLs.push {a t : Addr} {H : Hp} {R : List (List Int)} {r : List Int} {ps : List Addr} (h : H a = some (.lst (ps.map V.ref))) (hp : Paired (fun p (r : List Int) => H p = some (.lst (r.map V.int))) ps R) (hR : ∀ r ∈ R, r ≠ []) (hr : r ≠ []) (ht : H t = some (.lst (r.map V.int))) : LLs (upd H a (.lst (ps.map V.ref ++ [.ref t]))) a (R ++ [r]) := by
 have ne : ∀ (b : Addr) (x : List Int), x ≠ [] -> H b = some (.lst (x.map V.int)) -> b ≠ a := fun b x hx e c => by
  rw [c, h] at e
  injection e with e
  injection e with e
  exact ints_refs hx e.symm
 refine ⟨ps ++ [t], by rw [upd_same, List.map_append]; rfl, Paired.snoc ?_ ?_⟩
 ·have go : ∀ (qs : List Addr) (S : List (List Int)), Paired (fun p (r : List Int) => H p = some (.lst (r.map V.int))) qs S -> (∀ r ∈ S, r ≠ []) -> Paired (fun p (r : List Int) => upd H a (.lst (ps.map V.ref ++ [.ref t])) p = some (.lst (r.map V.int))) qs S := by
   intro qs S x
   induction x with
   | nil => intro _; exact .nil
   | cons e _ ih =>
    intro hS
    refine .cons ?_ (ih fun r hr => hS r (List.mem_cons_of_mem _ hr))
    rw [upd_ne (ne _ _ (hS _ List.mem_cons_self) e)]
    exact e
  exact go _ _ hp hR
 ·rw [upd_ne (ne _ _ hr ht)]
  exact ht
theorem cut_turns {ts : List Int} {n k : Nat} (hl : ts.length = n * n) (hk : k < n) : ∃ us : List Int, cutV (ts.map V.int) (some ((k : Int) * (n : Int))) (some (((k : Int) + 1) * (n : Int))) = us.map V.int /\ us.length = n := by
 have e1 : (k : Int) * (n : Int) = ((k * n : Nat) : Int) := by rw [Int.natCast_mul]
 have e2 : ((k : Int) + 1) * (n : Int) = (((k + 1) * n : Nat) : Int) := by rw [Int.natCast_mul]; rfl
 have h1 : (k + 1) * n <= n * n := Nat.mul_le_mul_right n hk
 have h2 : (k + 1) * n = k * n + n := Nat.succ_mul k n
 refine ⟨(ts.drop (k * n)).take n, ?_, ?_⟩
 ·unfold cutV
  rw [e1, e2, HT.sIx_nat, HT.sIx_nat, List.length_map, hl, Nat.min_eq_left h1, Nat.min_eq_left (show k * n <= n * n by exact Om.k93 hk h1 h2), show (k + 1) * n - k * n = n by exact Om.k92 h2, <- List.map_drop, <- List.map_take]
 ·rw [List.length_take, List.length_drop, hl]
  exact Om.k91 hk h1 h2
inductive SpSquareI (vs : List V) (H : Hp) (Q : VK) : Prop where
 | mk (cell : Int) (n : Nat) (_ : vs = [.int cell, .int (n : Int)]) (_ : 1 <= n) (_ : n <= 8) (_ : ∀ (t : Addr) (H' : Hp) (R : List (List Int)), Same H H' -> GridT H' t (R.map fun r => r.map V.int) -> OkRows n R -> R.length = n -> Q (.ref t) H') : SpSquareI vs H Q
noncomputable def spSquare : Sp := fun vs H Q _ => SpSquareI vs H Q
section
variable {P : Program} {w : World} {K : PySem.W.Frag} {mg : Str -> Option Value} {base : Heap}
theorem scSquare : FnScope ["_law_cell", "_law_size", "_law_turns", "_law_rows", "_law_k"] ["_law_cell", "_law_size"] (defScope sSquare) := ⟨rfl, rfl, rfl, by decide +kernel, rfl, by decide +kernel, by decide +kernel⟩
theorem ok_square {f fD fR : Addr} {fd dD dR : FuncData} (F : Fun K "_law_square" "_law_square" sSquare f fd) (T : Blt mg) (DD : Dfn K mg "_law_digits" sDigits ["_law_cell", "_law_many", "_law_most"] fD dD) (DR : Dfn K mg "_law_row_on" sRowOn ["_law_above", "_law_row", "_law_size", "_law_turns"] fR dR) :
  FnOk P w K mg base CX0 10 f fd ["_law_cell", "_law_size"] spSquare := by
 have GD : FnOk P w K mg base CX0 9 fD dD ["_law_cell", "_law_many", "_law_most"] spDigits := (ok_digits DD.F T).mono (by decide)
 have GR : FnOk P w K mg base CX0 9 fR dR ["_law_above", "_law_row", "_law_size", "_law_turns"] (spRowOn 9) := ok_rowOn DR T 9
 refine F.ok scSquare (fun vs H Q E h => ?_) (fun cdv A outer s H vs Q E hr h => ?_)
 ·obtain ⟨_, _, rfl, _⟩ := h
  rfl
 ·obtain ⟨cell, n, rfl, h1, h8, q⟩ := h
  refine' ⟨_, pss_cons ?s0 (pss_cons (ps_set (i := 3) scSquare.nd rfl (Or.inl rfl) (pe_lst pa_nil)) (pss_cons (ps_for PassesOwn.never rfl (pi_range1 rfl T.range (pa_cons (pv 1) pa_nil)) (pg_name (i := 4) scSquare.nd rfl (Or.inl rfl)) (pss_one ?b)) (pss_one ?r))), ?rd⟩
  case s0 => exact ps_set (i := 2) scSquare.nd rfl (Or.inl rfl) (pe_call GD hr rfl DD.m DD.F.kp DD.b .nil pass0 (pa_cons (pv 0) (pa_cons (pe_op op_mul (pv 1) (pv 1)) (pa_cons (pv 1) pa_nil))))
  case b => exact ps_expr (pe_bm PySem.F.plainAttrs_list PySem.F.slot_list_append PySem.F.type_list_append mt_append (pv 3) (pa_cons (pe_call GR hr rfl DR.m DR.F.kp DR.b .nil pass0 (pa_cons (pv 3) (pa_cons (pe_lst pa_nil) (pa_cons (pv 1) (pa_cons (pe_slice sl_list (pv 2) (po_some (pe_op op_mul (pv 4) (pv 1))) (po_some (pe_op op_mul (pe_op op_add (pv 4) pe_int) (pv 1)))) pa_nil))))) pa_nil))
  case r => exact ps_ret (pe_callTy (call_tupleK K) rfl T.tuple bt_tuple (pa_cons (pe_lc ["_law_row"] [none] rfl rfl (pi_listK K (pv 3)) (fun _ _ _ _ _ => pg_c 0) (fun _ _ _ _ _ => pts_nil) (fun _ _ _ _ _ => pe_callTy (call_tupleK K) rfl T.tuple bt_tuple (pa_cons (pv 0) pa_nil))) pa_nil))
  case rd =>
   have hnn : (n : Int) * (n : Int) = ((n * n : Nat) : Int) := by rw [Int.natCast_mul]
   have hnn64 : n * n <= 64 := Nat.mul_le_mul h8 h8
   refine ⟨_, rfl, _, rfl, _, rfl, _, _, rfl, rfl, .inl ⟨by exact Om.k90 h1 h8, by exact Om.k89 h1 h8⟩, _, rfl, cell, n * n, (n : Int), ?_, by exact Om.b1 ‹_› rfl, by exact Om.c3 ‹_›, by exact Om.k88 h1 h8, fun lt H1 ts hlt s1 ht1 htl htz => ?_⟩
   ·rw [<- hnn]
    rfl
   refine ⟨Nat.zero_le _, fun lr hlr => ?_⟩
   have s2 : Same H1 (upd H1 lr (.lst [])) := Same.new hlr
   refine ⟨_, rfl, (n : Int), rfl, by exact Om.c2, by exact Om.c1 ‹_› rfl, ?_⟩
   rw [Int.toNat_natCast]
   refine for_range (lo := 0) (n := n) (fun i σ H2 => ∃ (kk : Option V) (R : List (List Int)), σ = [some (.int cell), some (.int (n : Int)), some (.ref lt), some (.ref lr), kk] /\ Same H1 H2 /\ LLs H2 lr R /\ OkRows n R /\ R.length = i)
    ⟨none, [], rfl, s2, ⟨[], upd_same, .nil⟩, ⟨Nat.zero_le _, (fun r h => by cases h), fun c _ => List.nodup_nil⟩, rfl⟩ ?_ ?_
   ·rintro i σ H2 hi ⟨kk, R, rfl, sH2, hL, ok, hRl⟩
    rw [Int.zero_add]
    obtain ⟨ps, hps, hPs⟩ := id hL
    have hpl : (ps.map V.ref).length = R.length := by rw [List.length_map, hPs.length]
    obtain ⟨us, hus, hul⟩ := cut_turns (ts := ts) htl hi
    refine ⟨_, rfl, .inl ⟨rfl, _, SqL.of hps⟩, _, rfl, Nat.zero_le _, fun l5 hl5 => ?_⟩
    have s5 : Same H2 (upd H2 l5 (.lst [])) := Same.new hl5
    refine ⟨_, rfl, _, rfl, _, rfl, _, rfl, _, _, rfl, rfl, .inr ⟨by exact Om.k87 h1 h8 hul, by exact Om.k86 h1 h8 hul⟩, _, rfl, _, rfl, _, _, rfl, rfl, _, rfl, _, _, rfl, rfl, .inr ⟨by exact Om.k87 h1 h8 hul, by exact Om.k86 h1 h8 hul⟩, _, rfl, lt, _, rfl, SqL.of (s5 _ _ (sH2 _ _ ht1)), fun l6 hl6 => ?_⟩
    rw [hus]
    have s6 : Same (upd H2 l5 (.lst [])) (upd (upd H2 l5 (.lst [])) l6 (.lst (us.map V.int))) := Same.new hl6
    have s26 := s5.trans s6
    refine ⟨lr, l5, l6, n, R, [], us, rfl, hL.same s26, fun o ho => (ok.row o ho).1, by exact Om.b5 ‹_› ‹_› ‹_› rfl, s6 _ _ upd_same, PRow.nil n R, h8, upd_same, hul, by simp; exact Om.f3 ‹_›, fun p H7 r s7 hp o _ => ?_, fun H7 s7 hno => ?_⟩
    ·have hR7 := hL.same (s26.trans s7)
     obtain ⟨ps7, hps7, hPs7⟩ := hR7
     have e7 : ps7.map V.ref = ps.map V.ref := by
      have := (s26.trans s7) _ _ hps
      rw [hps7] at this
      injection this with this
      injection this
     refine ⟨lr, _, _, rfl, rfl, hps7, by rw [e7, hpl]; exact small1000 (by exact Om.b5 ‹_› ‹_› ‹_› rfl), some (.int (i : Int)), R ++ [r], rfl, fun b u e => ?_, ?_, o.more ok (by exact Om.x1 ‹_› ‹_›), by rw [List.length_append, hRl]; rfl⟩
     ·rw [upd_ne (ne_of_none e hlr)]
      exact s7 _ _ (s26 _ _ (sH2 _ _ e))
     ·refine LLs.push hps7 hPs7 (fun x hx => ?_) ?_ hp
      ·have := (ok.row x hx).1
       exact fun z => by rw [z] at this; simp at this; exact Om.k85 h1 h8 hul this
      ·have := o.len
       exact fun z => by rw [z] at this; simp at this; exact Om.k85 h1 h8 hul this
    ·obtain ⟨r, hr'⟩ := row_exists ok (by exact Om.x1 ‹_› ‹_›)
     exact (hno r hr' List.nil_prefix).elim
   ·rintro σ H2 ⟨kk, R, rfl, sH2, hL, ok, hRl⟩
    obtain ⟨ps, hps, hPs⟩ := id hL
    have hpl : (ps.map V.ref).length = R.length := by rw [List.length_map, hPs.length]
    refine ⟨_, rfl, lr, rfl, ⟨_, SqL.of hps⟩, fun lk hlk => comp_of (wlk_list (xs := ps.map V.ref)) (fun i ys σ H' => ∃ (v : Option V) (qs : List Addr), σ = [v] /\ ys = qs.map V.ref /\ Same H2 H' /\ H' lk = some (.lst ys) /\ Paired (fun p row => H' p = some (.tup row)) qs ((R.map fun r => r.map V.int).take i))
     ⟨none, [], rfl, rfl, Same.new hlk, upd_same, .nil⟩ (fun i ys σ H' zz0 => by obtain ⟨v, qs, _, _, sm, hl, _⟩ := zz0; exact ⟨SqL.of (sm _ _ hps), hl⟩) ?_ ?_⟩
    ·rintro j x ys σ H7 hj ⟨v, qs, rfl, rfl, sm7, hl7, hP7⟩
     rw [List.getElem?_map] at hj
     cases hpj : ps[j]? with
     | none => rw [hpj] at hj; cases hj
     | some p =>
      rw [hpj] at hj
      cases hj
      obtain ⟨r, hrj, hp⟩ := Paired.getL hPs hpj
      refine ⟨_, rfl, p, r.map V.int, rfl, .inl ⟨SqL.of (sm7 _ _ hp), fun tp htp => ?_⟩⟩
      have sm8 : Same H7 (upd H7 tp (.tup (r.map V.int))) := Same.new htp
      have hl9 := sm8 _ _ hl7
      have hjl : j < R.length := (List.getElem?_eq_some_iff.mp hrj).1
      have hql : qs.length = j := by rw [hP7.length, List.length_take, List.length_map]; exact Om.m1 ‹_›
      refine ⟨hl9, by rw [List.length_map, hql]; exact small1000 (by exact Om.b6 ‹_› ‹_› ‹_› rfl), _, qs ++ [tp], rfl, by rw [List.map_append]; rfl, fun b o e => ?_, upd_same, ?_⟩
      ·rw [upd_ne (ne_of_none e hlk)]
       exact sm8 _ _ (sm7 _ _ e)
      ·have up : ∀ b row, (upd H7 tp (.tup (r.map V.int))) b = some (.tup row) -> (upd (upd H7 tp (.tup (r.map V.int))) lk (.lst (qs.map V.ref ++ [.ref tp]))) b = some (.tup row) := fun b row e => by
        rw [upd_ne (ne_of e hl9 (by intro z; cases z))]
        exact e
       have et : (R.map fun r => r.map V.int).take (j + 1) = (R.map fun r => r.map V.int).take j ++ [r.map V.int] := by rw [List.take_add_one, List.getElem?_map, hrj]; rfl
       rw [et]
       exact Paired.snoc (Paired.mapP hP7 fun q row e => up q row (sm8 _ _ e)) (up tp _ upd_same)
    ·rintro ys σ H7 ⟨v, qs, rfl, rfl, sm7, hl7, hP7⟩
     rw [hpl, List.take_of_length_le (by rw [List.length_map]; exact Nat.le_refl _)] at hP7
     refine ⟨lk, _, rfl, .inl ⟨SqL.of hl7, fun tk htk => ?_⟩⟩
     have sm8 : Same H7 (upd H7 tk (.tup (qs.map V.ref))) := Same.new htk
     exact q tk _ R (s1.trans (sH2.trans (sm7.trans sm8))) ⟨qs, upd_same, Paired.mapP hP7 fun _ _ z => sm8 _ _ z⟩ ok hRl
end
end My
namespace My
open PySem L2
noncomputable def TG (H : Hp) (a : Addr) (R : List (List Int)) : Prop := ∃ ps : List Addr, H a = some (.tup (ps.map V.ref)) /\ Paired (fun p (r : List Int) => H p = some (.tup (r.map V.int))) ps R
theorem TG.same {c : Addr} {H H1 : Hp} {R : List (List Int)} (g : TG H c R) (x : Same H H1) : TG H1 c R :=
 let ⟨ps, h, r⟩ := g
 ⟨ps, x _ _ h, Paired.mapP r fun _ _ z => x _ _ z⟩
theorem TG.at {c : Addr} {H : Hp} {R : List (List Int)} (g : TG H c R) {k : Nat} (hk : k < R.length) : ∃ xs p, H c = some (.tup xs) /\ xs.length = R.length /\ atI xs (k : Int) = some (.ref p) /\ H p = some (.tup ((R.getD k []).map V.int)) := by
 obtain ⟨ps, h, r⟩ := g
 obtain ⟨p, hp, hH⟩ := Paired.getR r (List.getElem?_eq_getElem hk)
 refine ⟨_, p, h, by rw [List.length_map, r.length], atI_of (by rw [List.getElem?_map, hp]; rfl), ?_⟩
 rw [hH]
 simp [List.getD_eq_getElem?_getD, List.getElem?_eq_getElem hk]
theorem paired_unmap {H : Hp} : ∀ {ps : List Addr} {R : List (List Int)}, Paired (fun p row => H p = some (.tup row)) ps (R.map fun r => r.map V.int) -> Paired (fun p (r : List Int) => H p = some (.tup (r.map V.int))) ps R
 | [], [], _ => .nil
 | _ :: _, _ :: _, .cons h t => .cons h (paired_unmap t)
theorem GridT.tg {H : Hp} {a : Addr} {R : List (List Int)} (g : GridT H a (R.map fun r => r.map V.int)) : TG H a R :=
 let ⟨ps, h, r⟩ := g
 ⟨ps, h, paired_unmap r⟩
theorem getD_of {r : List Int} {i : Nat} (h : i < r.length) : r.getD i 0 = r[i] := by rw [List.getD_eq_getElem?_getD, List.getElem?_eq_getElem h]; rfl
theorem int_at {r : List Int} {i : Nat} (h : i < r.length) : atI (r.map V.int) (i : Int) = some (.int (r.getD i 0)) := by
 refine atI_of ?_
 rw [List.getElem?_map, List.getElem?_eq_getElem h, getD_of h]
 rfl
structure Row (n : Nat) (r : List Int) : Prop where
 len : r.length = n
 nd : r.Nodup
 rg : ∀ x ∈ r, 0 <= x /\ x < (n : Int)
theorem OkRows.rowAt {n : Nat} {R : List (List Int)} (ok : OkRows n R) {k : Nat} (hk : k < R.length) : Row n (R.getD k []) := by
 have : R.getD k [] = R[k] := by simp [List.getD_eq_getElem?_getD, List.getElem?_eq_getElem hk]
 rw [this]
 obtain ⟨h1, h2, h3⟩ := ok.row _ (List.getElem_mem hk)
 exact ⟨h1, h2, h3⟩
theorem Row.inj {n : Nat} {r : List Int} (t : Row n r) {i j : Nat} (hi : i < n) (hj : j < n) (e : r.getD i 0 = r.getD j 0) : i = j := by
 have hi' : i < r.length := by rw [t.len]; exact hi
 have hj' : j < r.length := by rw [t.len]; exact hj
 rw [getD_of hi', getD_of hj'] at e
 by_cases h : i = j
 ·exact h
 ·have p := List.pairwise_iff_getElem.mp (List.nodup_iff_pairwise_ne.mp t.nd)
  rcases Nat.lt_or_gt_of_ne h with z | z
  ·exact absurd e (p i j hi' hj' z)
  ·exact absurd e.symm (p j i hj' hi' z)
theorem Row.has {n : Nat} {r : List Int} (t : Row n r) {x : Int} (h : 0 <= x /\ x < (n : Int)) : r.idxOf x < n /\ r.getD (r.idxOf x) 0 = x := by
 have hm : x ∈ r := row_has t.len t.nd t.rg h
 have h1 := List.idxOf_lt_length_of_mem hm
 refine ⟨by rw [<- t.len]; exact h1, ?_⟩
 rw [getD_of h1]
 exact List.getElem_idxOf h1
theorem Row.val {n : Nat} {r : List Int} (t : Row n r) {i : Nat} (h : i < n) : 0 <= r.getD i 0 /\ r.getD i 0 < (n : Int) := by
 have hi : i < r.length := by rw [t.len]; exact h
 rw [getD_of hi]
 exact t.rg _ (List.getElem_mem hi)
noncomputable def stp (a b : List Int) (c : Nat) : Nat := a.idxOf (b.getD c 0)
theorem stp_one {n : Nat} {a b : List Int} (ha : Row n a) (hb : Row n b) : One n (stp a b) := by
 refine ⟨fun c hc => (ha.has (hb.val hc)).1, fun c d hc hd e => ?_⟩
 have h1 := (ha.has (hb.val hc)).2
 have h2 := (ha.has (hb.val hd)).2
 unfold stp at e
 rw [e, h2] at h1
 exact (hb.inj hd hc h1).symm
noncomputable def toI (l : List Nat) : List Int := l.map fun (c : Nat) => (c : Int)
theorem toI_app (l : List Nat) (x : Nat) : toI (l ++ [x]) = toI l ++ [(x : Int)] := by unfold toI; rw [List.map_append]; rfl
theorem found_at {n : Nat} {a : List Int} (ha : Row n a) {x : Int} (hx : 0 <= x /\ x < (n : Int)) : ((List.range n).filterMap fun j => if decide (V.int (a.getD j 0) = V.int x) = true then some (V.int ((j : Nat) : Int)) else none)[0]? = some (.int ((a.idxOf x : Nat) : Int)) := by
 obtain ⟨h1, h2⟩ := ha.has hx
 have hm : V.int ((a.idxOf x : Nat) : Int) ∈ ((List.range n).filterMap fun j => if decide (V.int (a.getD j 0) = V.int x) = true then some (V.int ((j : Nat) : Int)) else none) :=
  List.mem_filterMap.mpr ⟨a.idxOf x, List.mem_range.mpr h1, by rw [h2, if_pos (decide_eq_true rfl)]⟩
 have hall : ∀ y ∈ ((List.range n).filterMap fun j => if decide (V.int (a.getD j 0) = V.int x) = true then some (V.int ((j : Nat) : Int)) else none), y = V.int ((a.idxOf x : Nat) : Int) := fun y hy => by
  obtain ⟨j, hj, e⟩ := List.mem_filterMap.mp hy
  split at e
  ·next hd =>
   cases e
   have hd' := of_decide_eq_true hd
   injection hd' with hd'
   rw [ha.inj (List.mem_range.mp hj) h1 (hd'.trans h2.symm)]
  ·cases e
 generalize ((List.range n).filterMap fun j => if decide (V.int (a.getD j 0) = V.int x) = true then some (V.int ((j : Nat) : Int)) else none) = l at hm hall
 cases l with
 | nil => cases hm
 | cons y l => rw [List.getElem?_cons_zero, hall y List.mem_cons_self]
inductive SpRingI (vs : List V) (H : Hp) (Q : VK) : Prop where
 | mk (g : Addr) (n o1 o2 c : Nat) (R : List (List Int)) (_ : vs = [.ref g, .int (o1 : Int), .int (o2 : Int), .int (c : Int)]) (_ : TG H g R) (_ : OkRows n R) (_ : R.length = n) (_ : n <= 8) (_ : o1 < n) (_ : o2 < n) (_ : c < n) (_ : ∀ l H', Same H H' -> H l = none -> H' l = some (.lst ((toI (ringL (stp (R.getD o1 []) (R.getD o2 [])) n c)).map V.int)) -> Q (.ref l) H') : SpRingI vs H Q
noncomputable def spRing : Sp := fun vs H Q _ => SpRingI vs H Q
noncomputable def WRing (H : Hp) (g : Addr) (n o1 o2 c : Nat) (s : Nat -> Nat) (l : Addr) (m : Nat) (σ : St) (H2 : Hp) : Prop :=
 ∃ (v5 v6 : Option V) (acc : List Nat), σ = [some (.ref g), some (.int (o1 : Int)), some (.int (o2 : Int)), some (.int (c : Int)), some (.ref l), v5, v6] /\ Same H H2 /\ H2 l = some (.lst ((toI acc).map V.int)) /\ Path n s c acc /\ ringF s c (n + 1 - acc.length) acc = ringL s n c /\ m = n + 1 - acc.length
section
variable {P : Program} {w : World} {K : PySem.W.Frag} {mg : Str -> Option Value} {base : Heap}
theorem scRing : FnScope ["_law_square_here", "_law_one", "_law_other", "_law_column", "_law_found", "_law_thing", "_law_here"] ["_law_square_here", "_law_one", "_law_other", "_law_column"] (defScope sRing) := ⟨rfl, rfl, rfl, by decide +kernel, rfl, by decide +kernel, by decide +kernel⟩
theorem ok_ring {f : Addr} {fd : FuncData} (F : Fun K "_law_ring" "_law_ring" sRing f fd) (T : Blt mg) : FnOk P w K mg base CX0 1 f fd ["_law_square_here", "_law_one", "_law_other", "_law_column"] spRing := by
 refine F.ok scRing (fun vs H Q E h => ?_) (fun cdv A outer s H vs Q E hr h => ?_)
 ·obtain ⟨_, _, _, _, _, _, rfl, _⟩ := h
  rfl
 ·obtain ⟨g, n, o1, o2, c, R, rfl, hT, ok, hRl, h8, h1, h2, hc, q⟩ := h
  refine' ⟨_, pss_cons (ps_set (i := 4) scRing.nd rfl (Or.inl rfl) (pe_lst (pa_cons (pv 3) pa_nil))) (pss_one (ps_while PassesOwn.never (pt_val pe_bl) (pss_cons ?b0 (pss_cons ?b1 (pss_cons ?b2 (pss_one ?b3)))))), ?rd⟩
  case b0 => exact ps_set (i := 5) scRing.nd rfl (Or.inr rfl) (pe_ix ix_tup (pe_ix ix_tup (pv 0) (pv 2) (fun _ _ => rfl)) (pe_ix ix_list (pv 4) (pe_un un_neg pe_int) (fun _ _ => rfl)) (fun _ _ => rfl))
  case b1 => exact ps_set (i := 6) scRing.nd rfl (Or.inl rfl) (pe_ix ix_list (pe_lc ["_law_c", "_law_square_here", "_law_one", "_law_thing"] [none, some 0, some 1, some 5] rfl rfl (pi_range1 rfl T.range (pa_cons (pe_callB (call_lenK K) rfl T.len PySem.boot_len (pa_cons (pv 0) pa_nil)) pa_nil)) (fun _ _ _ _ _ => pg_c 0) (fun _ _ _ _ _ => pts_one (pt_cmpR op_eq (pe_ix (ix_tupK K) (pe_ix (ix_tupK K) (pv 1) (pv 2) (fun _ _ => rfl)) (pv 0) (fun _ _ => rfl)) (pv 3) (nomark _))) (fun _ _ _ _ _ => pv 0)) pe_int (fun _ _ => rfl))
  case b2 => exact ps_if (pt_cmpR op_eq (pv 6) (pv 3) (nomark _)) (pss_one (ps_ret (pv 4))) pss_nil
  case b3 => exact ps_expr (pe_bm PySem.F.plainAttrs_list PySem.F.slot_list_append PySem.F.type_list_append mt_append (pv 4) (pa_cons (pv 6) pa_nil))
  case rd =>
   have ra : Row n (R.getD o1 []) := ok.rowAt (by exact Om.a1 ‹_› ‹_›)
   have rb : Row n (R.getD o2 []) := ok.rowAt (by exact Om.a1 ‹_› ‹_›)
   have so := stp_one ra rb
   refine ⟨_, rfl, (show 1 <= sizeLine from small6 (by decide)), fun l hl => ?_⟩
   refine ⟨WRing H g n o1 o2 c (stp (R.getD o1 []) (R.getD o2 [])) l, ⟨_, none, none, [c], rfl, Same.new hl, upd_same, .one hc, ?_, rfl⟩, ?_⟩
   ·rfl
   rintro m σ H2 ⟨v5, v6, acc, rfl, sH, hl2, pa, hrf, rfl⟩
   refine ⟨true, rfl, iteT ⟨fun σ' H' => ∃ m', m' < n + 1 - acc.length /\ WRing H g n o1 o2 c (stp (R.getD o1 []) (R.getD o2 [])) l m' σ' H', fun _ _ z => z, ?_⟩⟩
   have hT2 := hT.same sH
   obtain ⟨xA, pA, a1, a2, a3, a4⟩ := hT2.at (k := o1) (by exact Om.a1 ‹_› ‹_›)
   obtain ⟨xB, pB, b1, b2, b3, b4⟩ := hT2.at (k := o2) (by exact Om.a1 ‹_› ‹_›)
   have hlast : lastN acc < n := pa.lt so _ pa.last_mem
   obtain ⟨acc', e'⟩ : ∃ acc', acc = acc' ++ [lastN acc] := by
    cases pa with
    | one _ => exact ⟨[], rfl⟩
    | more _ _ => exact ⟨_, by rw [lastN_app]⟩
   have hat : atI ((toI acc).map V.int) (-1) = some (.int ((lastN acc : Nat) : Int)) := by
    rw [e', lastN_app, toI_app, List.map_append]
    exact atI_last _ _
   refine ⟨_, rfl, _, rfl, g, _, _, _, rfl, rfl, SqT.of b1, b3, _, rfl, _, rfl, l, _, _, _, rfl, rfl, SqL.of hl2, hat, pB, _, _, _, rfl, rfl, SqT.of b4, int_at (by rw [rb.len]; exact hlast), ?_⟩
   have hv := rb.val hlast
   generalize hx : (R.getD o2 []).getD (lastN acc) 0 = x at hv
   refine ⟨_, rfl, g, xA, rfl, .inr (SqT.of a1), _, rfl, by exact Om.c2, by exact Om.k84 hRl h8 a2 b2, fun lc hlc => ?_⟩
   rw [a2, hRl, Int.toNat_natCast]
   refine comp_pure (fun j => if decide (V.int ((R.getD o1 []).getD j 0) = V.int x) = true then some (V.int ((j : Nat) : Int)) else none) (fun σ => ∃ v, σ = [v, some (.ref g), some (.int (o1 : Int)), some (.int x)]) (wlk_range (n := n)) (by rw [rng_len]; exact small6 (by exact Om.b1 ‹_› rfl)) hlc (fun _ _ => trivial) ⟨none, rfl⟩ ?_ ?_
   ·rintro j y σ H' R' hj ⟨v, rfl⟩ sm kk
    obtain ⟨hjn, rfl⟩ := rng_get hj
    have kk' := fun v' => kk [v', some (.ref g), some (.int (o1 : Int)), some (.int x)] H' ⟨v', rfl⟩ (Same.refl _)
    refine ⟨_, rfl, _, rfl, g, _, _, _, rfl, rfl, SqT.of (sm _ _ a1), a3, _, rfl, pA, _, _, _, rfl, rfl, SqT.of (sm _ _ a4), int_at (by rw [ra.len]; exact hjn), _, rfl, rfl, _, rfl, ?_⟩
    refine ite2 (fun hd => ?_) (fun hd => ?_)
    ·rw [if_pos hd] at kk'
     exact ⟨_, rfl, kk' _⟩
    ·rw [if_neg hd] at kk'
     exact kk' _
   ·intro H3 s3 hl3
    rw [rng_len] at hl3
    have hfa := found_at ra hv
    have est : (R.getD o1 []).idxOf x = stp (R.getD o1 []) (R.getD o2 []) (lastN acc) := by unfold stp; rw [hx]
    rw [est] at hfa
    refine ⟨lc, _, 0, _, rfl, rfl, SqL.of hl3, atI_of (i := 0) hfa, ?_⟩
    refine ⟨_, rfl, _, rfl, rfl, _, rfl, ?_⟩
    have hstep : ringF (stp (R.getD o1 []) (R.getD o2 [])) c (n + 1 - acc.length) acc = if stp (R.getD o1 []) (R.getD o2 []) (lastN acc) = c then acc else ringF (stp (R.getD o1 []) (R.getD o2 [])) c (n - acc.length) (acc ++ [stp (R.getD o1 []) (R.getD o2 []) (lastN acc)]) := by
     have := nat_len pa.nodup (pa.lt so)
     rw [show n + 1 - acc.length = (n - acc.length) + 1 by exact Om.k83 hRl a2 b2 this]
     rfl
    refine ite2 (fun hd => ?_) (fun hd => ?_)
    ·have e := of_decide_eq_true hd
     injection e with e
     have e' : stp (R.getD o1 []) (R.getD o2 []) (lastN acc) = c := by exact Om.e1 ‹_›
     rw [hstep, if_pos e'] at hrf
     refine ⟨_, rfl, q l H3 (sH.trans s3) hl ?_⟩
     rw [s3 _ _ hl2, hrf]
    ·have e' : stp (R.getD o1 []) (R.getD o2 []) (lastN acc) ≠ c := fun e => hd (by rw [e]; exact decide_eq_true rfl)
     obtain ⟨p', hlt⟩ := pa.next so e'
     rw [hstep, if_neg e'] at hrf
     have hl3' := s3 _ _ hl2
     refine ⟨_, rfl, .inl ⟨rfl, _, SqL.of hl3'⟩, _, rfl, l, _, _, rfl, rfl, hl3', by rw [List.length_map, toI, List.length_map]; exact small1000 (by exact Om.b2 ‹_› ‹_› rfl), n - acc.length, by exact Om.k82 hRl a2 b2 hlt, _, _, acc ++ [stp (R.getD o1 []) (R.getD o2 []) (lastN acc)], rfl, fun b u e => ?_, ?_, p', ?_, ?_⟩
     ·rw [upd_ne (ne_of_none e hl)]
      exact s3 _ _ (sH _ _ e)
     ·rw [upd_same, toI_app, List.map_append]
      rfl
     ·rw [List.length_append, show n + 1 - (acc.length + [stp (R.getD o1 []) (R.getD o2 []) (lastN acc)].length) = n - acc.length by simp]
      exact hrf
     ·rw [List.length_append]
      simp
end
end My
namespace My
noncomputable def ent (R : List (List Int)) (k c : Nat) : Int := (R.getD k []).getD c 0
noncomputable def mk (n : Nat) (f : Nat -> Nat -> Int) : List (List Int) := (List.range n).map fun k => (List.range n).map fun c => f k c
theorem nodup_map {α : Type} {f : Nat -> α} {n : Nat} (h : ∀ i j, i < n -> j < n -> f i = f j -> i = j) : ((List.range n).map f).Nodup := by
 refine List.nodup_iff_pairwise_ne.mpr (List.pairwise_map.mpr ?_)
 refine List.Pairwise.imp_of_mem ?_ (List.nodup_iff_pairwise_ne.mp List.nodup_range)
 intro a b ha hb hne e
 exact hne (h a b (List.mem_range.mp ha) (List.mem_range.mp hb) e)
theorem mk_ok {n : Nat} {f : Nat -> Nat -> Int} (hv : ∀ k c, k < n -> c < n -> 0 <= f k c /\ f k c < (n : Int)) (hr : ∀ k c d, k < n -> c < n -> d < n -> f k c = f k d -> c = d) (hcol : ∀ k l c, k < n -> l < n -> c < n -> f k c = f l c -> k = l) : OkRows n (mk n f) /\ (mk n f).length = n := by
 have hl : (mk n f).length = n := by unfold mk; rw [List.length_map, List.length_range]
 refine ⟨⟨Nat.le_of_eq hl, fun r h => ?_, fun c hc => ?_⟩, hl⟩
 ·obtain ⟨k, hk, rfl⟩ := List.mem_map.mp h
  have hk' := List.mem_range.mp hk
  refine ⟨by rw [List.length_map, List.length_range], nodup_map fun i j hi hj e => hr k i j hk' hi hj e, fun x hx => ?_⟩
  obtain ⟨c, hc, rfl⟩ := List.mem_map.mp hx
  exact hv k c hk' (List.mem_range.mp hc)
 ·have e : colL (mk n f) c = (List.range n).map fun k => f k c := by
   unfold colL mk
   rw [List.map_map]
   refine List.map_congr_left fun k hk => ?_
   show ((List.range n).map fun c => f k c).getD c 0 = f k c
   simp [List.getD_eq_getElem?_getD, List.getElem?_map, List.getElem?_range hc]
  rw [e]
  exact nodup_map fun i j hi hj e => hcol i j c hi hj hc e
theorem ent_row {n : Nat} {R : List (List Int)} (ok : OkRows n R) (hl : R.length = n) {k : Nat} (hk : k < n) : Row n (R.getD k []) := ok.rowAt (by exact Om.a1 ‹_› ‹_›)
theorem ent_col {n : Nat} {R : List (List Int)} (ok : OkRows n R) (hl : R.length = n) {k l c : Nat} (hk : k < n) (hl' : l < n) (hc : c < n) (e : ent R k c = ent R l c) : k = l := by
 have nd := ok.col c hc
 have k1 : k < (colL R c).length := by unfold colL; rw [List.length_map]; exact Om.a1 ‹_› ‹_›
 have k2 : l < (colL R c).length := by unfold colL; rw [List.length_map]; exact Om.a1 ‹_› ‹_›
 by_cases h : k = l
 ·exact h
 ·have p := List.pairwise_iff_getElem.mp (List.nodup_iff_pairwise_ne.mp nd)
  have e1 : (colL R c)[k] = ent R k c := by simp [colL, ent, List.getD_eq_getElem?_getD, List.getElem?_eq_getElem (show k < R.length by exact Om.a1 ‹_› ‹_›)]
  have e2 : (colL R c)[l] = ent R l c := by simp [colL, ent, List.getD_eq_getElem?_getD, List.getElem?_eq_getElem (show l < R.length by exact Om.a1 ‹_› ‹_›)]
  rcases Nat.lt_or_gt_of_ne h with z | z
  ·exact absurd (e1.trans (e.trans e2.symm)) (p k l k1 k2 z)
  ·exact absurd (e2.trans (e.symm.trans e1.symm)) (p l k k2 k1 z)
theorem mk_of {n : Nat} {R : List (List Int)} (ok : OkRows n R) (hl : R.length = n) : mk n (ent R) = R := by
 refine List.ext_getElem (by unfold mk; rw [List.length_map, List.length_range, hl]) fun k h1 h2 => ?_
 have hk : k < n := by exact Om.a2 ‹_› ‹_›
 have e : (mk n (ent R))[k] = (List.range n).map fun c => ent R k c := by simp [mk]
 rw [e]
 have hr := (ok.row _ (List.getElem_mem h2)).1
 refine List.ext_getElem (by rw [List.length_map, List.length_range, hr]) fun c h3 h4 => ?_
 simp [ent, List.getD_eq_getElem?_getD, List.getElem?_eq_getElem h2, List.getElem?_eq_getElem h4]
noncomputable def other (o1 o2 : Nat) (S : List Nat) (k c : Nat) : Nat := if c ∈ S /\ (k = o1 \/ k = o2) then o1 + o2 - k else k
noncomputable def exSq (n : Nat) (R : List (List Int)) (o1 o2 : Nat) (S : List Nat) : List (List Int) := mk n fun k c => ent R (other o1 o2 S k c) c
theorem other_lt {n o1 o2 : Nat} {S : List Nat} (h1 : o1 < n) (h2 : o2 < n) {k c : Nat} (hk : k < n) : other o1 o2 S k c < n := by
 unfold other
 split
 ·next h => rcases h.2 with e | e <;> omega
 ·exact hk
theorem other_inj {o1 o2 : Nat} {S : List Nat} {k l c : Nat} (e : other o1 o2 S k c = other o1 o2 S l c) : k = l := by
 unfold other at e
 split at e <;> split at e
 ·next h h' => rcases h.2 with a | a <;> rcases h'.2 with b | b <;> omega
 ·next h h' =>
  exact absurd ⟨h.1, by rcases h.2 with a | a <;> omega⟩ h'
 ·next h h' =>
  exact absurd ⟨h'.1, by rcases h'.2 with a | a <;> omega⟩ h
 ·exact e
theorem other_one {o1 o2 : Nat} {S : List Nat} (c : Nat) : other o1 o2 S o1 c = if c ∈ S then o2 else o1 := by
 unfold other
 by_cases h : c ∈ S
 ·rw [if_pos ⟨h, .inl rfl⟩, if_pos h]; exact Om.k81 
 ·rw [if_neg (fun z => h z.1), if_neg h]
theorem other_two {o1 o2 : Nat} {S : List Nat} (c : Nat) : other o1 o2 S o2 c = if c ∈ S then o1 else o2 := by
 unfold other
 by_cases h : c ∈ S
 ·rw [if_pos ⟨h, .inr rfl⟩, if_pos h]; exact Om.k80 
 ·rw [if_neg (fun z => h z.1), if_neg h]
theorem other_else {o1 o2 : Nat} {S : List Nat} {k : Nat} (h1 : k ≠ o1) (h2 : k ≠ o2) (c : Nat) : other o1 o2 S k c = k := by
 unfold other
 rw [if_neg (fun z => z.2.elim h1 h2)]
theorem stp_ent {n : Nat} {a b : List Int} (ha : Row n a) (hb : Row n b) {c : Nat} (hc : c < n) : a.getD (stp a b c) 0 = b.getD c 0 := (ha.has (hb.val hc)).2
theorem ex_ok {n : Nat} {R : List (List Int)} (ok : OkRows n R) (hl : R.length = n) {o1 o2 c0 : Nat} (h1 : o1 < n) (h2 : o2 < n) (hc0 : c0 < n) :
  OkRows n (exSq n R o1 o2 (ringL (stp (R.getD o1 []) (R.getD o2 [])) n c0)) /\ (exSq n R o1 o2 (ringL (stp (R.getD o1 []) (R.getD o2 [])) n c0)).length = n := by
 have ra := ent_row ok hl h1
 have rb := ent_row ok hl h2
 have so := stp_one ra rb
 have cl := fun {x} hx => ring_closed (x := x) so hc0 hx
 have hse : ∀ c, c < n -> ent R o1 (stp (R.getD o1 []) (R.getD o2 []) c) = ent R o2 c := fun c hc => stp_ent ra rb hc
 generalize stp (R.getD o1 []) (R.getD o2 []) = s at so cl hse
 have hlt : ∀ x ∈ ringL s n c0, x < n := (ring_ok so hc0).1.lt so
 generalize ringL s n c0 = S at cl hlt
 have x1 : ∀ c d, c ∈ S -> d ∉ S -> d < n -> ent R o2 c ≠ ent R o1 d := fun c d hc hd hdn e => by
  have := hse c (hlt c hc)
  have e2 : stp (R.getD o1 []) (R.getD o2 []) c = stp (R.getD o1 []) (R.getD o2 []) c := rfl
  have e3 := ra.inj (so.lt c (hlt c hc)) hdn (this.trans e)
  exact hd (e3 ▸ (cl hc).1)
 have x2 : ∀ c d, c ∈ S -> d ∉ S -> d < n -> ent R o1 c ≠ ent R o2 d := fun c d hc hd hdn e => by
  have h3 := hse d hdn
  have e3 := ra.inj (hlt c hc) (so.lt d hdn) (e.trans h3.symm)
  obtain ⟨y, hy, e4⟩ := (cl hc).2
  have := so.inj y d (hlt y hy) hdn (e4.trans e3)
  exact hd (this ▸ hy)
 refine mk_ok (fun k c hk hc => (ent_row ok hl (other_lt h1 h2 hk)).val hc) (fun k c d hk hc hd e => ?_) fun k l c hk hl' hc e => other_inj (ent_col ok hl (other_lt h1 h2 hk) (other_lt h1 h2 hl') hc e)
 by_cases k1 : k = o1
 ·subst k1
  rw [other_one, other_one] at e
  by_cases hcS : c ∈ S <;> by_cases hdS : d ∈ S
  ·rw [if_pos hcS, if_pos hdS] at e; exact rb.inj hc hd e
  ·rw [if_pos hcS, if_neg hdS] at e; exact absurd e (x1 c d hcS hdS hd)
  ·rw [if_neg hcS, if_pos hdS] at e; exact absurd e.symm (x1 d c hdS hcS hc)
  ·rw [if_neg hcS, if_neg hdS] at e; exact ra.inj hc hd e
 ·by_cases k2 : k = o2
  ·subst k2
   rw [other_two, other_two] at e
   by_cases hcS : c ∈ S <;> by_cases hdS : d ∈ S
   ·rw [if_pos hcS, if_pos hdS] at e; exact ra.inj hc hd e
   ·rw [if_pos hcS, if_neg hdS] at e; exact absurd e (x2 c d hcS hdS hd)
   ·rw [if_neg hcS, if_pos hdS] at e; exact absurd e.symm (x2 d c hdS hcS hc)
   ·rw [if_neg hcS, if_neg hdS] at e; exact rb.inj hc hd e
  ·rw [other_else k1 k2, other_else k1 k2] at e
   exact (ent_row ok hl hk).inj hc hd e
end My
namespace My
open PySem L2
theorem inV_toI (i : Nat) (r : List Nat) : inV (.int (i : Int)) ((toI r).map V.int) = decide (i ∈ r) := by
 rw [inV_ints]
 congr 1
 unfold toI
 rw [eq_iff_iff]
 constructor
 ·intro h
  obtain ⟨c, hc, e⟩ := List.mem_map.mp h
  have : c = i := by exact Om.e1 ‹_›
  rw [<- this]
  exact hc
 ·intro h
  exact List.mem_map.mpr ⟨i, h, rfl⟩
end My
namespace My
open PySem L2
noncomputable def rowTo (f : Nat -> Nat -> Int) (k c : Nat) : List Int := (List.range c).map fun c => f k c
theorem rowTo_succ (f : Nat -> Nat -> Int) (k c : Nat) : rowTo f k (c + 1) = rowTo f k c ++ [f k c] := by unfold rowTo; rw [List.range_succ, List.map_append]; rfl
theorem mk_take {n : Nat} (f : Nat -> Nat -> Int) {k : Nat} (hk : k < n) : (mk n f).take (k + 1) = (mk n f).take k ++ [rowTo f k n] := by
 rw [List.take_add_one]
 congr 1
 unfold mk rowTo
 rw [List.getElem?_map, List.getElem?_range hk]
 rfl
inductive SpExI (vs : List V) (H : Hp) (Q : VK) : Prop where
 | mk (g : Addr) (n o1 o2 c : Nat) (R : List (List Int)) (_ : vs = [.ref g, .int (o1 : Int), .int (o2 : Int), .int (c : Int)]) (_ : TG H g R) (_ : OkRows n R) (_ : R.length = n) (_ : n <= 8) (_ : o1 < n) (_ : o2 < n) (_ : o1 ≠ o2) (_ : c < n) (_ : ∀ t H', Same H H' -> TG H' t (exSq n R o1 o2 (ringL (stp (R.getD o1 []) (R.getD o2 [])) n c)) -> Q (.ref t) H') : SpExI vs H Q
noncomputable def spEx : Sp := fun vs H Q _ => SpExI vs H Q
section
variable {P : Program} {w : World} {K : PySem.W.Frag} {mg : Str -> Option Value} {base : Heap}
theorem scEx : FnScope ["_law_square_here", "_law_one", "_law_other", "_law_column", "_law_ring_here", "_law_rows", "_law_k", "_law_row", "_law_c", "_law_there"] ["_law_square_here", "_law_one", "_law_other", "_law_column"] (defScope sExchanged) := ⟨rfl, rfl, rfl, by decide +kernel, rfl, by decide +kernel, by decide +kernel⟩
theorem ok_exchanged {f fR : Addr} {fd dR : FuncData} (F : Fun K "_law_exchanged" "_law_exchanged" sExchanged f fd) (T : Blt mg) (DR : Dfn K mg "_law_ring" sRing ["_law_square_here", "_law_one", "_law_other", "_law_column"] fR dR) : FnOk P w K mg base CX0 2 f fd ["_law_square_here", "_law_one", "_law_other", "_law_column"] spEx := by
 have GR : FnOk P w K mg base CX0 1 fR dR ["_law_square_here", "_law_one", "_law_other", "_law_column"] spRing := ok_ring DR.F T
 refine F.ok scEx (fun vs H Q E h => ?_) (fun cdv A outer s H vs Q E hr h => ?_)
 ·obtain ⟨_, _, _, _, _, _, rfl, _⟩ := h
  rfl
 ·obtain ⟨g, n, o1, o2, c0, R, rfl, hT, ok, hRl, h8, h1, h2, hne, hc0, q⟩ := h
  refine' ⟨_, pss_cons ?s0 (pss_cons (ps_set (i := 5) scEx.nd rfl (Or.inl rfl) (pe_lst pa_nil)) (pss_cons (ps_for PassesOwn.never rfl ?i (pg_name (i := 6) scEx.nd rfl (Or.inl rfl)) (pss_cons (ps_set (i := 7) scEx.nd rfl (Or.inl rfl) (pe_lst pa_nil)) (pss_cons (ps_for PassesOwn.never rfl ?j (pg_name (i := 8) scEx.nd rfl (Or.inl rfl)) (pss_cons (ps_set (i := 9) scEx.nd rfl (Or.inl rfl) (pv 6)) (pss_cons (ps_if (PW.pt (pw_and ?c0 (pw_and1 ?c1))) (pss_one ?d) pss_nil) (pss_one ?e)))) (pss_one ?k)))) (pss_one ?r))), ?rd⟩
  case s0 => exact ps_set (i := 4) scEx.nd rfl (Or.inl rfl) (pe_call GR hr rfl DR.m DR.F.kp DR.b .nil pass0 (pa_cons (pv 0) (pa_cons (pv 1) (pa_cons (pv 2) (pa_cons (pv 3) pa_nil)))))
  case i => exact pi_range1 rfl T.range (pa_cons (pe_callB (call_lenK K) rfl T.len PySem.boot_len (pa_cons (pv 0) pa_nil)) pa_nil)
  case j => exact pi_range1 rfl T.range (pa_cons (pe_callB (call_lenK K) rfl T.len PySem.boot_len (pa_cons (pv 0) pa_nil)) pa_nil)
  case c0 => exact pt_cmpR (op_inK K) (pv 8) (pv 4) rfl
  case c1 => exact pt_cmpR (op_inK K) (pv 6) (pe_tup (pa_cons (pv 1) (pa_cons (pv 2) pa_nil))) rfl
  case d => exact ps_set (i := 9) scEx.nd rfl (Or.inl rfl) (pe_op op_sub (pe_op op_add (pv 1) (pv 2)) (pv 6))
  case e => exact ps_expr (pe_bm PySem.F.plainAttrs_list PySem.F.slot_list_append PySem.F.type_list_append mt_append (pv 7) (pa_cons (pe_ix ix_tup (pe_ix ix_tup (pv 0) (pv 9) (fun _ _ => rfl)) (pv 8) (fun _ _ => rfl)) pa_nil))
  case k => exact ps_expr (pe_bm PySem.F.plainAttrs_list PySem.F.slot_list_append PySem.F.type_list_append mt_append (pv 5) (pa_cons (pe_callTy (call_tupleK K) rfl T.tuple bt_tuple (pa_cons (pv 7) pa_nil)) pa_nil))
  case r => exact ps_ret (pe_callTy (call_tupleK K) rfl T.tuple bt_tuple (pa_cons (pv 5) pa_nil))
  case rd =>
   refine ⟨_, rfl, _, rfl, _, rfl, _, rfl, g, n, o1, o2, c0, R, rfl, hT, ok, hRl, h8, h1, h2, hc0, fun lg H1 s1 _ hg1 => ?_⟩
   generalize ringL (stp (R.getD o1 []) (R.getD o2 [])) n c0 = S at hg1 q
   refine ⟨Nat.zero_le _, fun lr hlr => ?_⟩
   have sr : Same H1 (upd H1 lr (.lst [])) := Same.new hlr
   have hT1 := hT.same s1
   obtain ⟨gs, hgs, hGs⟩ := id hT1
   have hgl : (gs.map V.ref).length = n := by rw [List.length_map, hGs.length, hRl]
   refine ⟨_, rfl, g, _, rfl, .inr (SqT.of (sr _ _ hgs)), _, rfl, by exact Om.c2, by exact Om.k79 hRl h8 hgl, ?_⟩
   rw [hgl, Int.toNat_natCast]
   refine for_range (lo := 0) (n := n) (fun i σ H2 => ∃ (v6 v7 v8 v9 : Option V) (ps : List Addr), σ = [some (.ref g), some (.int (o1 : Int)), some (.int (o2 : Int)), some (.int (c0 : Int)), some (.ref lg), some (.ref lr), v6, v7, v8, v9] /\ Same H1 H2 /\ H2 lr = some (.lst (ps.map V.ref)) /\ Paired (fun p (r : List Int) => H2 p = some (.tup (r.map V.int))) ps ((exSq n R o1 o2 S).take i))
    ⟨none, none, none, none, [], rfl, sr, upd_same, .nil⟩ ?_ ?_
   ·rintro k σ H2 hk ⟨v6, v7, v8, v9, ps, rfl, s2, hps, hPs⟩
    rw [Int.zero_add]
    refine ⟨Nat.zero_le _, fun lw hlw => ?_⟩
    have sw : Same H2 (upd H2 lw (.lst [])) := Same.new hlw
    refine ⟨_, rfl, g, _, rfl, .inr (SqT.of (sw _ _ (s2 _ _ hgs))), _, rfl, by exact Om.c2, by exact Om.k79 hRl h8 hgl, ?_⟩
    rw [hgl, Int.toNat_natCast]
    refine for_range (lo := 0) (n := n) (fun c σ H3 => ∃ (v8 v9 : Option V), σ = [some (.ref g), some (.int (o1 : Int)), some (.int (o2 : Int)), some (.int (c0 : Int)), some (.ref lg), some (.ref lr), some (.int (k : Int)), some (.ref lw), v8, v9] /\ Same H2 H3 /\ H3 lw = some (.lst ((rowTo (fun k c => ent R (other o1 o2 S k c) c) k c).map V.int)))
     ⟨_, _, rfl, sw, upd_same⟩ ?_ ?_
    ·rintro c σ H3 hc ⟨w8, w9, rfl, s3, hw3⟩
     rw [Int.zero_add]
     have fin : ∀ (H4 : Hp) (m : Nat), Same H3 H4 -> m = other o1 o2 S k c -> ∃ v, [some (V.ref g), some (.int (o1 : Int)), some (.int (o2 : Int)), some (.int (c0 : Int)), some (.ref lg), some (.ref lr), some (.int (k : Int)), some (.ref lw), some (.int (c : Int)), some (.int (m : Int))] = v /\ True := fun _ _ _ _ => ⟨_, rfl, trivial⟩
     have hg3 := (s2.trans s3) _ _ hg1
     have put : ∀ (H4 : Hp) (m : Nat), Same H3 H4 -> m = other o1 o2 S k c -> ∃ xs p, SqT K H4 g xs /\ atI xs (m : Int) = some (.ref p) /\ SqT K H4 p ((R.getD m []).map V.int) /\ atI ((R.getD m []).map V.int) (c : Int) = some (.int (ent R (other o1 o2 S k c) c)) /\ H4 lw = some (.lst ((rowTo (fun k c => ent R (other o1 o2 S k c) c) k c).map V.int)) := fun H4 m s4 em => by
      have hm : m < n := by rw [em]; exact other_lt h1 h2 hk
      obtain ⟨xs, p, a1, a2, a3, a4⟩ := (hT1.same (s2.trans (s3.trans s4))).at (k := m) (by exact Om.a1 ‹_› ‹_›)
      refine ⟨xs, p, SqT.of a1, a3, SqT.of a4, ?_, s4 _ _ hw3⟩
      rw [int_at (by rw [(ok.rowAt (k := m) (by exact Om.a1 ‹_› ‹_›)).len]; exact hc), <- em]
      rfl
     have hls : ((rowTo (fun k c => ent R (other o1 o2 S k c) c) k c).map V.int).length < sizeLine := by rw [List.length_map, rowTo, List.length_map, List.length_range]; exact small1000 (by exact Om.b2 ‹_› ‹_› rfl)
     have done : ∀ (H4 : Hp), Same H3 H4 -> Same H2 (upd H4 lw (.lst ((rowTo (fun k c => ent R (other o1 o2 S k c) c) k c).map V.int ++ [.int (ent R (other o1 o2 S k c) c)]))) := fun H4 s4 b u e => by
      rw [upd_ne (ne_of_none e hlw)]
      exact s4 _ _ (s3 _ _ e)
     have last : ∀ (H4 : Hp), (upd H4 lw (.lst ((rowTo (fun k c => ent R (other o1 o2 S k c) c) k c).map V.int ++ [.int (ent R (other o1 o2 S k c) c)]))) lw = some (.lst ((rowTo (fun k c => ent R (other o1 o2 S k c) c) k (c + 1)).map V.int)) := fun H4 => by
      rw [upd_same, rowTo_succ, List.map_append]
      rfl
     refine ⟨_, rfl, ?_⟩
     refine ⟨_, rfl, _, rfl, lg, _, rfl, .inl (SqL.of hg3), rfl, map_ints_flat _, _, rfl, ?_⟩
     have ein : (if false = true then !inV (.int (c : Int)) ((toI S).map V.int) else inV (.int (c : Int)) ((toI S).map V.int)) = decide (c ∈ S) := by rw [if_neg Bool.false_ne_true, inV_toI]
     rw [ein]
     refine ite2 (fun hd => ?_) (fun hd => ?_)
     ·have hcS : c ∈ S := of_decide_eq_true hd
      refine ⟨_, rfl, _, rfl, _, rfl, (show 2 <= sizeLine from small6 (by decide)), fun tp htp => ⟨tp, _, rfl, .inr (SqT.of upd_same), rfl, rfl, _, rfl, ?_⟩⟩
      have s4 : Same H3 (upd H3 tp (.tup [.int (o1 : Int), .int (o2 : Int)])) := Same.new htp
      have ein2 : (if false = true then !inV (.int (k : Int)) [.int (o1 : Int), .int (o2 : Int)] else inV (.int (k : Int)) [.int (o1 : Int), .int (o2 : Int)]) = decide (k = o1 \/ k = o2) := by
       rw [if_neg Bool.false_ne_true]
       have := inV_ints (k : Int) [(o1 : Int), (o2 : Int)]
       rw [show [V.int (o1 : Int), V.int (o2 : Int)] = [(o1 : Int), (o2 : Int)].map V.int from rfl, this, Bool.eq_iff_iff, decide_eq_true_eq, decide_eq_true_eq]
       simp only [List.mem_cons, List.not_mem_nil, or_false]
       constructor
       ·intro h
        rcases h with h | h <;> omega
       ·intro h
        rcases h with h | h <;> omega
      rw [ein2]
      refine ite2 (fun hd2 => ?_) (fun hd2 => ?_)
      ·have hk2 := of_decide_eq_true hd2
       have em : o1 + o2 - k = other o1 o2 S k c := by unfold other; rw [if_pos ⟨hcS, hk2⟩]
       obtain ⟨xs, p, a1, a2, a3, a4, a5⟩ := put _ _ s4 em
       refine ⟨_, rfl, _, rfl, _, _, rfl, rfl, _, rfl, _, _, rfl, rfl, ?_⟩
       have ei : (o1 : Int) + (o2 : Int) - (k : Int) = ((o1 + o2 - k : Nat) : Int) := by rcases hk2 with z | z <;> omega
       show gName 9 (V.int ((o1 : Int) + (o2 : Int) - (k : Int))) _ _ _
       rw [ei]
       exact ⟨_, rfl, .inl ⟨rfl, _, SqL.of a5⟩, _, rfl, _, rfl, g, _, _, _, rfl, rfl, a1, a2, _, rfl, p, _, _, _, rfl, rfl, a3, a4, lw, _, _, rfl, rfl, a5, hls, _, _, rfl, done _ s4, last _⟩
      ·have em : k = other o1 o2 S k c := by unfold other; rw [if_neg fun z => hd2 (decide_eq_true z.2)]
       obtain ⟨xs, p, a1, a2, a3, a4, a5⟩ := put _ _ s4 em
       exact ⟨_, rfl, .inl ⟨rfl, _, SqL.of a5⟩, _, rfl, _, rfl, g, _, _, _, rfl, rfl, a1, a2, _, rfl, p, _, _, _, rfl, rfl, a3, a4, lw, _, _, rfl, rfl, a5, hls, _, _, rfl, done _ s4, last _⟩
     ·have em : k = other o1 o2 S k c := by unfold other; rw [if_neg fun z => hd (decide_eq_true z.1)]
      obtain ⟨xs, p, a1, a2, a3, a4, a5⟩ := put H3 _ (Same.refl _) em
      exact iteF ⟨_, rfl, .inl ⟨rfl, _, SqL.of a5⟩, _, rfl, _, rfl, g, _, _, _, rfl, rfl, a1, a2, _, rfl, p, _, _, _, rfl, rfl, a3, a4, lw, _, _, rfl, rfl, a5, hls, _, _, rfl, done _ (Same.refl _), last _⟩
    ·rintro σ H3 ⟨w8, w9, rfl, s3, hw3⟩
     have hps3 := s3 _ _ hps
     refine ⟨_, rfl, .inl ⟨rfl, _, SqL.of hps3⟩, _, rfl, lw, _, rfl, .inl ⟨SqL.of hw3, fun tp htp => ?_⟩⟩
     have s4 := Same.new (o := HO.tup ((rowTo (fun k c => ent R (other o1 o2 S k c) c) k n).map V.int)) htp
     have hps4 := s4 _ _ hps3
     have hpl : ps.length <= 8 := by rw [hPs.length, List.length_take]; exact Om.k78 hRl h8 h1 hgl hk
     have up : ∀ b row, (upd H3 tp (.tup ((rowTo (fun k c => ent R (other o1 o2 S k c) c) k n).map V.int))) b = some (.tup row) -> (upd (upd H3 tp (.tup ((rowTo (fun k c => ent R (other o1 o2 S k c) c) k n).map V.int))) lr (.lst (ps.map V.ref ++ [.ref tp]))) b = some (.tup row) := fun b row e => by
      rw [upd_ne (ne_of e hps4 (by intro z; cases z))]
      exact e
     refine ⟨lr, _, _, rfl, rfl, hps4, by rw [List.length_map]; exact small1000 (by exact Om.b1 ‹_› rfl), _, _, _, _, ps ++ [tp], rfl, fun b u e => ?_, by rw [upd_same, List.map_append]; rfl, ?_⟩
     ·rw [upd_ne (ne_of_none e hlr)]
      exact s4 _ _ (s3 _ _ (s2 _ _ e))
     ·rw [exSq, mk_take _ hk]
      exact Paired.snoc (Paired.mapP hPs fun _ _ e => up _ _ (s4 _ _ (s3 _ _ e))) (up _ _ upd_same)
   ·rintro σ H2 ⟨v6, v7, v8, v9, ps, rfl, s2, hps, hPs⟩
    rw [List.take_of_length_le (by unfold exSq mk; rw [List.length_map, List.length_range]; exact Nat.le_refl _)] at hPs
    refine ⟨_, rfl, lr, _, rfl, .inl ⟨SqL.of hps, fun t ht => ?_⟩⟩
    exact q t _ (s1.trans (s2.trans (Same.new ht))) ⟨ps, upd_same, Paired.mapP hPs fun _ _ e => (Same.new ht) _ _ e⟩
end
end My
namespace My
open PySem L2
noncomputable def cntT (n : Nat) (l : List Int) : Nat := (rngI n).countP fun t => decide (t ∈ l)
noncomputable def valsL (R : List (List Int)) (r c : List Nat) : List Int := r.flatMap fun i => c.map fun j => ent R i j
theorem mem_vals {R : List (List Int)} {r c : List Nat} {t : Int} : t ∈ valsL R r c ↔ ∃ i ∈ r, ∃ j ∈ c, ent R i j = t := by
 unfold valsL
 rw [List.mem_flatMap]
 simp only [List.mem_map]
theorem ent_rg {n : Nat} {R : List (List Int)} (ok : OkRows n R) (hl : R.length = n) {i j : Nat} (hi : i < n) (hj : j < n) : 0 <= ent R i j /\ ent R i j < (n : Int) := (ent_row ok hl hi).val hj
theorem vals_rg {n k : Nat} {R : List (List Int)} (ok : OkRows n R) (hl : R.length = n) {r c : List Nat} (hr : Pick n k r) (hc : Pick n k c) : ∀ t ∈ valsL R r c, 0 <= t /\ t < (n : Int) := fun t ht => by
 obtain ⟨i, hi, j, hj, rfl⟩ := mem_vals.mp ht
 exact ent_rg ok hl (hr.lt i hi) (hc.lt j hj)
theorem nodup_map_on {α β : Type} {f : α -> β} : ∀ {l : List α}, l.Nodup -> (∀ a ∈ l, ∀ b ∈ l, f a = f b -> a = b) -> (l.map f).Nodup
 | [], _, _ => List.nodup_nil
 | x :: l, nd, h => by
  rw [List.nodup_cons] at nd
  rw [List.map_cons, List.nodup_cons]
  refine ⟨fun hm => ?_, nodup_map_on nd.2 fun a ha b hb => h a (List.mem_cons_of_mem _ ha) b (List.mem_cons_of_mem _ hb)⟩
  obtain ⟨y, hy, e⟩ := List.mem_map.mp hm
  have := h y (List.mem_cons_of_mem _ hy) x List.mem_cons_self e
  exact nd.1 (this ▸ hy)
noncomputable def rowK (n : Nat) (R : List (List Int)) (k : Nat) (r : List Nat) : List (List Nat × List Nat) := ((rp n k).filter fun c => decide (cntT n (valsL R r c) = k)).map fun c => (r, c)
noncomputable def partsK (n : Nat) (R : List (List Int)) (k : Nat) : List (List Nat × List Nat) := (rp n k).flatMap (rowK n R k)
noncomputable def dueL (n : Nat) (R : List (List Int)) : List (List Nat × List Nat) := (List.range' 2 (n - 2)).flatMap (partsK n R)
end My
namespace My
open PySem L2
noncomputable def okF (n : Nat) (f : Nat -> Nat -> Int) : Bool := (List.range n).all fun k => (List.range n).all fun c => decide (0 <= f k c) && decide (f k c < (n : Int)) && (List.range n).all fun d => (!decide (f k c = f k d) || decide (c = d)) && (!decide (f c k = f d k) || decide (c = d))
theorem okF_ok {n : Nat} {f : Nat -> Nat -> Int} (h : okF n f = true) : OkRows n (mk n f) := by
 unfold okF at h
 rw [List.all_eq_true] at h
 have g : ∀ k c, k < n -> c < n -> (0 <= f k c /\ f k c < (n : Int)) /\ ∀ d, d < n -> (f k c = f k d -> c = d) /\ (f c k = f d k -> c = d) := fun k c hk hc => by
  have h1 := h k (List.mem_range.mpr hk)
  rw [List.all_eq_true] at h1
  have h2 := h1 c (List.mem_range.mpr hc)
  rw [Bool.and_eq_true, Bool.and_eq_true, decide_eq_true_eq, decide_eq_true_eq, List.all_eq_true] at h2
  refine ⟨h2.1, fun d hd => ?_⟩
  have h3 := h2.2 d (List.mem_range.mpr hd)
  rw [Bool.and_eq_true, Bool.or_eq_true, Bool.or_eq_true, Bool.not_eq_true', Bool.not_eq_true', decide_eq_false_iff_not, decide_eq_false_iff_not, decide_eq_true_eq] at h3
  exact ⟨fun e => h3.1.elim (fun z => absurd e z) id, fun e => h3.2.elim (fun z => absurd e z) id⟩
 exact (mk_ok (fun k c hk hc => (g k c hk hc).1) (fun k c d hk hc hd e => ((g k c hk hc).2 d hd).1 e) (fun k l c hk hl hc e => ((g c k hc hk).2 l hl).2 e)).1
noncomputable def fT (n i j : Nat) : Int := ((i : Int) + (j : Int)) % (((n / 2 : Nat)) : Int) + (((n / 2 : Nat)) : Int) * (((i : Int) / (((n / 2 : Nat)) : Int) + (j : Int) / (((n / 2 : Nat)) : Int)) % 2)
theorem ok_fT : ∀ n, n < 7 -> n % 2 = 0 -> 2 <= n -> okF n (fT n) = true := by decide +kernel
noncomputable def tsL (n : Nat) (R : List (List Int)) (r c : List Nat) : List Int := (rngI n).filter fun t => decide (t ∈ valsL R r c)
theorem tsL_len {n : Nat} {R : List (List Int)} {r c : List Nat} : (tsL n R r c).length = cntT n (valsL R r c) := by
 unfold tsL cntT
 rw [List.countP_eq_length_filter]
theorem tsL_nd {n : Nat} {R : List (List Int)} {r c : List Nat} : (tsL n R r c).Nodup := (rngI_nodup n).filter _
theorem tsL_mem {n k : Nat} {R : List (List Int)} {r c : List Nat} (ok : OkRows n R) (hl : R.length = n) (hr : Pick n k r) (hc : Pick n k c) {t : Int} : t ∈ tsL n R r c ↔ t ∈ valsL R r c := by
 unfold tsL
 rw [List.mem_filter, decide_eq_true_eq]
 exact ⟨fun h => h.2, fun h => ⟨mem_rngI.mpr (vals_rg ok hl hr hc t h), h⟩⟩
theorem rngI_le (n : Nat) : (rngI n).Pairwise (· <= ·) := by
 unfold rngI
 rw [List.pairwise_map]
 exact List.pairwise_lt_range.imp fun h => by exact Om.k44 h
theorem tsL_le {n : Nat} {R : List (List Int)} {r c : List Nat} : (tsL n R r c).Pairwise (· <= ·) := (rngI_le n).filter _
noncomputable def toT (ts : List Int) : List (Key × V) := ts.map fun x => (.inl x, .bl true)
theorem any_toT (ts : List Int) (x : Int) : ((toT ts).any fun kv => decide (kv.1 = (.inl x : Key))) = decide (x ∈ ts) := by
 unfold toT
 rw [List.any_map, Bool.eq_iff_iff, List.any_eq_true, decide_eq_true_eq]
 constructor
 ·rintro ⟨y, hy, e⟩
  have e' : (Sum.inl y : Key) = .inl x := of_decide_eq_true e
  rw [<- Sum.inl.inj e']
  exact hy
 ·intro h
  exact ⟨x, h, decide_eq_true rfl⟩
theorem put_tt (ts : List Int) (x : Int) : putK (toT ts) (.inl x) (.bl true) = toT (if x ∈ ts then ts else ts ++ [x]) := by
 unfold putK
 rw [any_toT]
 by_cases h : x ∈ ts
 ·rw [decide_eq_true h, if_pos rfl, if_pos h]
  unfold toT
  rw [List.map_map]
  refine List.map_congr_left fun y _ => ?_
  show (if (Sum.inl y : Key) = .inl x then ((Sum.inl y : Key), V.bl true) else ((Sum.inl y : Key), V.bl true)) = _
  split <;> rfl
 ·rw [decide_eq_false h, if_neg Bool.false_ne_true, if_neg h]
  unfold toT
  rw [List.map_append]
  rfl
inductive SpTableI (K : PySem.W.Frag) (vs : List V) (H : Hp) (Q : VK) : Prop where
 | mk (a : Addr) (ns : List Int) (_ : vs = [.ref a]) (_ : SqL K H a (ns.map V.int)) (_ : ∀ (t : Addr) (n : Nat) (R : List (List Int)) (H' : Hp), Same H H' -> TG H' t R -> OkRows n R -> R.length = n -> 2 <= n -> n <= 6 -> Q (.ref t) H') : SpTableI K vs H Q
noncomputable def spTable (K : PySem.W.Frag) : Sp := fun vs H Q _ => SpTableI K vs H Q
inductive SpThingsI (vs : List V) (H : Hp) (Q : VK) : Prop where
 | mk (g ra ca : Addr) (n k : Nat) (R : List (List Int)) (r c : List Nat) (_ : vs = [.ref g, .ref ra, .ref ca]) (_ : TG H g R) (_ : OkRows n R) (_ : R.length = n) (_ : n <= 6) (_ : H ra = some (.tup ((toZ r).map V.int))) (_ : H ca = some (.tup ((toZ c).map V.int))) (_ : Pick n k r) (_ : Pick n k c) (_ : k <= 6) (_ : ∀ (l : Addr) (H' : Hp), Same H H' -> H' l = some (.lst ((tsL n R r c).map V.int)) -> Q (.ref l) H') : SpThingsI vs H Q
noncomputable def spThings : Sp := fun vs H Q _ => SpThingsI vs H Q
section
variable {P : Program} {w : World} {K : PySem.W.Frag} {mg : Str -> Option Value} {base : Heap}
theorem scTable : FnScope ["_law_script", "_law_size", "_law_rows", "_law_low", "_law_i", "_law_row", "_law_j", "_law_half"] ["_law_script"] (defScope sTable) := ⟨rfl, rfl, rfl, by decide +kernel, rfl, by decide +kernel, by decide +kernel⟩
theorem ok_table {f fC : Addr} {fd dC : FuncData} (F : Fun K "_law_table" "_law_table" sTable f fd) (T : Blt mg) (DC : Dfn K mg "_law_cell_at" sCell ["_law_script", "_law_k"] fC dC) : FnOk P w K mg base CX0 2 f fd ["_law_script"] (spTable K) := by
 have GC : FnOk P w K mg base CX0 1 fC dC ["_law_script", "_law_k"] (spCell K) := ok_cell DC.F T
 refine F.ok scTable (fun vs H Q E h => ?_) (fun cdv A outer s H vs Q E hr h => ?_)
 ·obtain ⟨_, _, rfl, _⟩ := h
  rfl
 ·obtain ⟨a, ns, rfl, hS, q⟩ := h
  refine' ⟨_, pss_cons ?s0 (pss_cons (ps_set (i := 2) scTable.nd rfl (Or.inl rfl) (pe_lst pa_nil)) (pss_cons ?s2 (pss_cons (ps_for PassesOwn.never rfl (pi_range1 rfl T.range (pa_cons (pv 1) pa_nil)) (pg_name (i := 4) scTable.nd rfl (Or.inl rfl)) (pss_cons (ps_set (i := 5) scTable.nd rfl (Or.inl rfl) (pe_lst pa_nil)) (pss_cons (ps_for PassesOwn.never rfl (pi_range1 rfl T.range (pa_cons (pv 1) pa_nil)) (pg_name (i := 6) scTable.nd rfl (Or.inl rfl)) (pss_cons ?c0 (pss_one ?c1))) (pss_one ?b2)))) (pss_one (ps_ret (pe_callTy (call_tupleK K) rfl T.tuple bt_tuple (pa_cons (pv 2) pa_nil))))))), ?rd⟩
  case s0 => exact ps_set (i := 1) scTable.nd rfl (Or.inl rfl) (pe_ix ix_list (pe_lst (pa_cons pe_int (pa_cons pe_int (pa_cons pe_int (pa_cons pe_int (pa_cons pe_int pa_nil)))))) (pe_op op_mod (pe_op op_fdiv (pe_call GC hr rfl DC.m DC.F.kp DC.b .nil pass0 (pa_cons (pv 0) (pa_cons pe_int pa_nil))) pe_int) pe_int) (fun _ _ => rfl))
  case s2 => exact ps_set (i := 3) scTable.nd rfl (Or.inl rfl) (pe_op op_fdiv (pv 1) pe_int)
  case c0 => exact ps_set (i := 7) scTable.nd rfl (Or.inl rfl) (pe_op op_mod (pe_op op_add (pe_op op_fdiv (pv 4) (pv 3)) (pe_op op_fdiv (pv 6) (pv 3))) pe_int)
  case c1 => exact ps_expr (pe_bm PySem.F.plainAttrs_list PySem.F.slot_list_append PySem.F.type_list_append mt_append (pv 5) (pa_cons (pe_op op_add (pe_op op_mod (pe_op op_add (pv 4) (pv 6)) (pv 3)) (pe_op op_mul (pv 3) (pv 7))) pa_nil))
  case b2 => exact ps_expr (pe_bm PySem.F.plainAttrs_list PySem.F.slot_list_append PySem.F.type_list_append mt_append (pv 2) (pa_cons (pe_callTy (call_tupleK K) rfl T.tuple bt_tuple (pa_cons (pv 5) pa_nil)) pa_nil))
  case rd =>
   refine ⟨(show 5 <= sizeLine from small6 (by decide)), fun l0 hl0 => ?_⟩
   have sA : Same H (upd H l0 (.lst [.int 2, .int 4, .int 6, .int 4, .int 6])) := Same.new hl0
   have hA : (upd H l0 (.lst [.int 2, .int 4, .int 6, .int 4, .int 6])) l0 = some (.lst [.int 2, .int 4, .int 6, .int 4, .int 6]) := upd_same
   generalize upd H l0 (.lst [.int 2, .int 4, .int 6, .int 4, .int 6]) = HA at sA hA ⊢
   refine ⟨_, rfl, a, ns, 0, rfl, sA.seq hS, fun z => ?_⟩
   refine ⟨_, _, rfl, rfl, ⟨by decide, by decide⟩, _, _, rfl, rfl, (by show (0 : Int) < 5; decide), ?_⟩
   obtain ⟨m, hm, hm5⟩ : ∃ m : Nat, z / 14 % 5 = (m : Int) /\ m < 5 := ⟨(z / 14 % 5).toNat, by exact Om.k77 , by exact Om.k76 ⟩
   obtain ⟨n, hn, hn2, hn6, hev⟩ : ∃ n : Nat, [V.int 2, .int 4, .int 6, .int 4, .int 6][m]? = some (.int (n : Int)) /\ 2 <= n /\ n <= 6 /\ n % 2 = 0 := by
    have : m = 0 \/ m = 1 \/ m = 2 \/ m = 3 \/ m = 4 := by exact Om.k75 hm
    rcases this with rfl | rfl | rfl | rfl | rfl
    ·exact ⟨2, rfl, by decide, by decide, rfl⟩
    ·exact ⟨4, rfl, by decide, by decide, rfl⟩
    ·exact ⟨6, rfl, by decide, by decide, rfl⟩
    ·exact ⟨4, rfl, by decide, by decide, rfl⟩
    ·exact ⟨6, rfl, by decide, by decide, rfl⟩
   refine ⟨l0, _, _, .int (n : Int), rfl, rfl, SqL.of hA, ?_, ?_⟩
   ·show atI _ (z / 14 % 5) = _
    rw [hm]
    exact atI_of hn
   have okR := okF_ok (ok_fT n (by exact Om.f3 ‹_›) hev hn2)
   refine ⟨Nat.zero_le _, fun lr hlr => ?_⟩
   have s1 := sA.trans (Same.new (o := .lst []) hlr)
   have hlr0 : H lr = none := sA.free hlr
   have hr1 : (upd HA lr (.lst [])) lr = some (.lst []) := upd_same
   generalize upd HA lr (.lst []) = H1 at s1 hr1 ⊢
   refine ⟨_, rfl, _, _, rfl, rfl, ⟨by decide, by decide⟩, ?_⟩
   show gName 3 (V.int ((n : Int) / 2)) _ _ _
   rw [show (n : Int) / 2 = ((n / 2 : Nat) : Int) by exact Om.k74 ]
   generalize hlo : n / 2 = lo
   have hlo1 : 1 <= lo := by exact Om.k73 hn2 hn6 hev hlo
   refine ⟨_, rfl, (n : Int), rfl, by exact Om.c2, by exact Om.c1 ‹_› rfl, ?_⟩
   rw [Int.toNat_natCast]
   refine for_range (lo := 0) (n := n) (fun i σ H2 => ∃ (v4 v5 v6 v7 : Option V) (ps : List Addr), σ = [some (.ref a), some (.int (n : Int)), some (.ref lr), some (.int (lo : Int)), v4, v5, v6, v7] /\ Same H H2 /\ H2 lr = some (.lst (ps.map V.ref)) /\ Paired (fun p (r : List Int) => H2 p = some (.tup (r.map V.int))) ps ((mk n (fT n)).take i))
    ⟨none, none, none, none, [], rfl, s1, hr1, .nil⟩ ?_ ?_
   ·rintro i σ H2 hi ⟨v4, v5, v6, v7, ps, rfl, s2, h2, hP⟩
    rw [Int.zero_add]
    refine ⟨Nat.zero_le _, fun lw hlw => ?_⟩
    refine ⟨_, rfl, (n : Int), rfl, by exact Om.c2, by exact Om.c1 ‹_› rfl, ?_⟩
    rw [Int.toNat_natCast]
    refine for_range (lo := 0) (n := n) (fun j σ H3 => ∃ (v6 v7 : Option V), σ = [some (.ref a), some (.int (n : Int)), some (.ref lr), some (.int (lo : Int)), some (.int (i : Int)), some (.ref lw), v6, v7] /\ Same H2 H3 /\ H3 lw = some (.lst ((rowTo (fT n) i j).map V.int)))
     ⟨_, _, rfl, Same.new hlw, upd_same⟩ ?_ ?_
    ·rintro j σ H3 hj ⟨w6, w7, rfl, s3, h3⟩
     rw [Int.zero_add]
     refine ⟨_, rfl, _, rfl, _, _, rfl, rfl, ⟨(by show (0 : Int) < (lo : Int); exact Om.c3 ‹_›), (by show (lo : Int) < 1073741824; exact Om.k72 hn2 hn6 hev hlo)⟩, _, rfl, _, rfl, _, _, rfl, rfl, ⟨(by show (0 : Int) < (lo : Int); exact Om.c3 ‹_›), (by show (lo : Int) < 1073741824; exact Om.k72 hn2 hn6 hev hlo)⟩, _, _, rfl, rfl, _, _, rfl, rfl, (by show (0 : Int) < 2; decide), ?_⟩
     have hb : 0 <= ((i : Int) / (lo : Int) + (j : Int) / (lo : Int)) % 2 /\ ((i : Int) / (lo : Int) + (j : Int) / (lo : Int)) % 2 < 2 := by exact Om.k71 
     refine ⟨_, rfl, .inl ⟨rfl, _, SqL.of h3⟩, _, rfl, _, rfl, _, _, rfl, rfl, _, rfl, _, _, rfl, rfl, (by show (0 : Int) < (lo : Int); exact Om.c3 ‹_›), _, rfl, _, rfl, _, _, rfl, rfl, .inl ⟨by exact Om.k70 hn2 hn6 hev hlo, by exact Om.k69 hn2 hn6 hev hlo⟩, _, _, rfl, rfl, lw, _, _, rfl, rfl, h3, by rw [List.length_map, rowTo, List.length_map, List.length_range]; exact small1000 (by exact Om.b2 ‹_› ‹_› rfl), ?_⟩
     refine ⟨_, _, rfl, fun b u e => ?_, ?_⟩
     ·rw [upd_ne (ne_of_none e hlw)]
      exact s3 _ _ e
     ·rw [upd_same, rowTo_succ, List.map_append, show fT n i j = ((i : Int) + (j : Int)) % (lo : Int) + (lo : Int) * (((i : Int) / (lo : Int) + (j : Int) / (lo : Int)) % 2) by unfold fT; rw [hlo]]
      rfl
    ·rintro σ H3 ⟨w6, w7, rfl, s3, h3⟩
     have h23 := s3 _ _ h2
     refine ⟨_, rfl, .inl ⟨rfl, _, SqL.of h23⟩, _, rfl, lw, _, rfl, .inl ⟨SqL.of h3, fun tp htp => ?_⟩⟩
     have s4 := Same.new (o := HO.tup ((rowTo (fT n) i n).map V.int)) htp
     have h24 := s4 _ _ h23
     have hpl : ps.length <= 6 := by rw [hP.length, List.length_take]; exact Om.k68 hn2 hn6 hev hlo hi
     have up : ∀ b row, (upd H3 tp (.tup ((rowTo (fT n) i n).map V.int))) b = some (.tup row) -> (upd (upd H3 tp (.tup ((rowTo (fT n) i n).map V.int))) lr (.lst (ps.map V.ref ++ [.ref tp]))) b = some (.tup row) := fun b row e => by
      rw [upd_ne (ne_of e h24 (by intro z; cases z))]
      exact e
     refine ⟨lr, _, _, rfl, rfl, h24, by rw [List.length_map]; exact small1000 (by exact Om.b1 ‹_› rfl), _, _, _, _, ps ++ [tp], rfl, fun b u e => ?_, by rw [upd_same, List.map_append]; rfl, ?_⟩
     ·rw [upd_ne (ne_of_none e hlr0)]
      exact s4 _ _ (s3 _ _ (s2 _ _ e))
     ·rw [mk_take _ hi]
      exact Paired.snoc (Paired.mapP hP fun _ _ e => up _ _ (s4 _ _ (s3 _ _ e))) (up _ _ upd_same)
   ·rintro σ H2 ⟨v4, v5, v6, v7, ps, rfl, s2, h2, hP⟩
    have hml : (mk n (fT n)).length = n := by unfold mk; rw [List.length_map, List.length_range]
    rw [List.take_of_length_le (by rw [hml]; exact Nat.le_refl _)] at hP
    exact ⟨_, rfl, lr, _, rfl, .inl ⟨SqL.of h2, fun t ht => q t n _ _ (s2.trans (Same.new ht)) ⟨ps, upd_same, Paired.mapP hP fun _ _ e => (Same.new ht) _ _ e⟩ okR hml hn2 hn6⟩⟩
end
end My
namespace My
open PySem L2
theorem sorted_uniq : ∀ {a b : List Int}, a.Perm b -> a.Pairwise (· <= ·) -> b.Pairwise (· <= ·) -> a = b
 | [], b, p, _, _ => (List.Perm.nil_eq p)
 | x :: a, [], p, _, _ => by have := p.length_eq; cases this
 | x :: a, y :: b, p, ha, hb => by
  have hxy : x = y := by
   have h1 : y ∈ x :: a := p.mem_iff.mpr List.mem_cons_self
   have h2 : x ∈ y :: b := p.mem_iff.mp List.mem_cons_self
   have l1 : x <= y := by
    rcases List.mem_cons.mp h1 with z | z
    ·exact Om.k67 z
    ·exact (List.pairwise_cons.mp ha).1 y z
   have l2 : y <= x := by
    rcases List.mem_cons.mp h2 with z | z
    ·exact Om.k67 z
    ·exact (List.pairwise_cons.mp hb).1 x z
   omega
  subst hxy
  rw [sorted_uniq (List.Perm.cons_inv p) (List.pairwise_cons.mp ha).2 (List.pairwise_cons.mp hb).2]
theorem vals_take {R : List (List Int)} {r c : List Nat} {i : Nat} (h : i < r.length) : valsL R (r.take (i + 1)) c = valsL R (r.take i) c ++ c.map fun j => ent R r[i] j := by
 unfold valsL
 rw [<- List.take_append_getElem h, List.flatMap_append]
 simp
theorem toZ_len (l : List Nat) : (toZ l).length = l.length := List.length_map _
theorem toZ_at {l : List Nat} {i : Nat} {x : V} (h : ((toZ l).map V.int)[i]? = some x) : ∃ hi : i < l.length, x = .int ((l[i] : Nat) : Int) := by
 have hi : i < l.length := by
  have := (List.getElem?_eq_some_iff.mp h).1
  rw [List.length_map, toZ_len] at this
  exact this
 refine ⟨hi, ?_⟩
 unfold toZ at h
 rw [List.getElem?_map, List.getElem?_map, List.getElem?_eq_getElem hi] at h
 cases h
 rfl
theorem list_toT (U : List Int) : (toT U).map (fun p => kV p.1) = U.map V.int := by
 unfold toT
 rw [List.map_map]
 rfl
structure Got (n : Nat) (U l : List Int) : Prop where
 nd : U.Nodup
 mem : ∀ t, t ∈ U ↔ t ∈ l
theorem Got.add {n : Nat} {U l : List Int} (h : Got n U l) (x : Int) : Got n (if x ∈ U then U else U ++ [x]) (l ++ [x]) := by
 by_cases hx : x ∈ U
 ·rw [if_pos hx]
  refine ⟨h.nd, fun t => ?_⟩
  rw [List.mem_append, List.mem_singleton, <- h.mem]
  exact ⟨.inl, fun z => z.elim id fun e => e ▸ hx⟩
 ·rw [if_neg hx]
  refine ⟨List.nodup_append.mpr ⟨h.nd, by simp, fun a ha b hb e => hx (by rw [<- List.mem_singleton.mp hb, <- e]; exact ha)⟩, fun t => ?_⟩
  rw [List.mem_append, List.mem_append, h.mem]
theorem Got.len {n : Nat} {U l : List Int} (h : Got n U l) (hl : ∀ t ∈ l, 0 <= t /\ t < (n : Int)) : U.length <= n := by
 have := len_le (T := U) (S := rngI n) h.nd fun x hx => mem_rngI.mpr (hl x ((h.mem x).mp hx))
 rw [rngI_len] at this
 exact this
section
variable {P : Program} {w : World} {K : PySem.W.Frag} {mg : Str -> Option Value} {base : Heap}
theorem scThings : FnScope ["_law_square_here", "_law_rows", "_law_columns", "_law_found", "_law_row", "_law_column"] ["_law_square_here", "_law_rows", "_law_columns"] (defScope sThings) := ⟨rfl, rfl, rfl, by decide +kernel, rfl, by decide +kernel, by decide +kernel⟩
theorem ok_things {f : Addr} {fd : FuncData} (F : Fun K "_law_things" "_law_things" sThings f fd) (T : Blt mg) : FnOk P w K mg base CX0 1 f fd ["_law_square_here", "_law_rows", "_law_columns"] spThings := by
 refine F.ok scThings (fun vs H Q E h => ?_) (fun cdv A outer s H vs Q E hr h => ?_)
 ·obtain ⟨_, _, _, _, _, _, _, _, rfl, _⟩ := h
  rfl
 ·obtain ⟨g, ra, ca, n, k, R, r, c, rfl, hT, ok, hRl, h6, hra, hca, pr, pc, hk6, q⟩ := h
  have hu : ((A.deeper (PyProof.Rows.envOfC "_law_things" (defScope sThings) s.heap.objs.size f cdv))).units + 1 < cLine := by have := hr.un; omega
  refine' ⟨_, pss_cons (ps_set (i := 3) scThings.nd rfl (Or.inl rfl) pe_dnewK) (pss_cons (ps_for PassesOwn.never rfl (pi_tup (pv 1)) (pg_name (i := 4) scThings.nd rfl (Or.inl rfl)) (pss_one (ps_for PassesOwn.never rfl (pi_tup (pv 2)) (pg_name (i := 5) scThings.nd rfl (Or.inl rfl)) (pss_one ?b)))) (pss_one (ps_ret ?r))), ?rd⟩
  case b => exact ps_dput hu (pv 3) (pe_ix ix_tup (pe_ix ix_tup (pv 0) (pv 4) (fun _ _ => rfl)) (pv 5) (fun _ _ => rfl)) pe_bl rfl
  case r => exact pe_callB (call_sorted K) rfl T.sorted PyProof.Rows.boot_sorted (pa_cons (pe_callTy (call_listD rfl) rfl T.list bt_list (pa_cons (pv 3) pa_nil)) pa_nil)
  case rd =>
   refine fun aT haT => ?_
   have hT1 : (upd H aT (.dK [])) aT = some (.dK (toT [])) := upd_same
   have k1 : ∀ b o, b ≠ aT -> H b = some o -> (upd H aT (.dK [])) b = some o := fun b o hb e => by rw [upd_ne hb]; exact e
   generalize upd H aT (.dK []) = H1 at hT1 k1 ⊢
   have nT : ∀ {b : Addr} {o : HO}, H b = some o -> b ≠ aT := fun e z => by rw [z, haT] at e; cases e
   have vrg := vals_rg ok hRl pr pc
   refine ⟨_, rfl, ra, rfl, ⟨_, SqT.of (k1 _ _ (nT hra) hra)⟩, ?_⟩
   refine for_tup (xs := (toZ r).map V.int) (fun i σ H2 => ∃ (v4 v5 : Option V) (U : List Int), σ = [some (.ref g), some (.ref ra), some (.ref ca), some (.ref aT), v4, v5] /\ (∀ b o, b ≠ aT -> H b = some o -> H2 b = some o) /\ H2 aT = some (.dK (toT U)) /\ Got n U (valsL R (r.take i) c))
    ⟨none, none, [], rfl, k1, hT1, List.nodup_nil, fun t => by simp [valsL]⟩ (fun i σ H2 _ zz0 => by obtain ⟨_, _, _, _, k2, _⟩ := zz0; exact SqT.of (k2 _ _ (nT hra) hra)) ?_ ?_
   ·rintro i x σ H2 hx ⟨v4, v5, U, rfl, k2, hT2, gU⟩
    obtain ⟨hi, rfl⟩ := toZ_at hx
    have hri := pr.lt _ (List.getElem_mem hi)
    obtain ⟨xg, pg, a1, a2, a3, a4⟩ := hT.at (k := r[i]) (by exact Om.a1 ‹_› ‹_›)
    refine ⟨_, rfl, ca, rfl, ⟨_, SqT.of (k2 _ _ (nT hca) hca)⟩, ?_⟩
    refine for_tup (xs := (toZ c).map V.int) (fun j σ H3 => ∃ (v5 : Option V) (U : List Int), σ = [some (.ref g), some (.ref ra), some (.ref ca), some (.ref aT), some (.int ((r[i] : Nat) : Int)), v5] /\ (∀ b o, b ≠ aT -> H b = some o -> H3 b = some o) /\ H3 aT = some (.dK (toT U)) /\ Got n U (valsL R (r.take i) c ++ (c.take j).map fun j => ent R r[i] j))
     ⟨_, U, rfl, k2, hT2, by simpa using gU⟩ (fun j σ H3 _ zz0 => by obtain ⟨_, _, _, k3, _⟩ := zz0; exact SqT.of (k3 _ _ (nT hca) hca)) ?_ ?_
    ·rintro j y σ H3 hy ⟨w5, U, rfl, k3, hT3, gU⟩
     obtain ⟨hj, rfl⟩ := toZ_at hy
     have hcj := pc.lt _ (List.getElem_mem hj)
     have hsub : ∀ t ∈ valsL R (r.take i) c ++ (c.take j).map fun j => ent R r[i] j, 0 <= t /\ t < (n : Int) := fun t ht => by
      rcases List.mem_append.mp ht with ht | ht
      ·obtain ⟨i', hi', j', hj', e⟩ := mem_vals.mp ht
       exact vrg t (mem_vals.mpr ⟨i', List.mem_of_mem_take hi', j', hj', e⟩)
      ·obtain ⟨j', hj', rfl⟩ := List.mem_map.mp ht
       exact vrg _ (mem_vals.mpr ⟨_, List.getElem_mem hi, j', List.mem_of_mem_take hj', rfl⟩)
     have hUl := gU.len hsub
     refine ⟨_, rfl, _, rfl, _, rfl, g, _, _, _, rfl, rfl, SqT.of (k3 _ _ (nT a1) a1), a3, _, rfl, pg, _, _, _, rfl, rfl, SqT.of (k3 _ _ (nT a4) a4), int_at (i := c[j]) (by rw [(ok.rowAt (k := r[i]) (by exact Om.a1 ‹_› ‹_›)).len]; exact hcj), aT, _, rfl, DPut.k (k := .inl (ent R r[i] c[j])) hT3 (by unfold toT; rw [List.length_map]; exact small1000 (by exact Om.b3 ‹_› ‹_› rfl)), ?_⟩
     rw [put_tt]
     refine ⟨_, _, rfl, fun b o hb e => by rw [upd_ne hb]; exact k3 b o hb e, upd_same, ?_⟩
     rw [<- List.take_append_getElem hj, List.map_append, <- List.append_assoc]
     exact gU.add _
    ·rintro σ H3 ⟨w5, U, rfl, k3, hT3, gU⟩
     rw [List.length_map, toZ_len, List.take_length, <- vals_take hi] at gU
     exact ⟨_, _, U, rfl, k3, hT3, gU⟩
   ·rintro σ H2 ⟨v4, v5, U, rfl, k2, hT2, gU⟩
    rw [List.length_map, toZ_len, List.take_length] at gU
    have hUl := gU.len vrg
    refine ⟨_, rfl, aT, toT U, rfl, hT2, by unfold toT; rw [List.length_map]; exact Om.b3 ‹_› ‹_› rfl, fun l hl => ?_⟩
    rw [list_toT]
    refine ⟨l, U, rfl, SqL.of upd_same, by exact Om.k66 hRl h6 hUl, fun ls ns' hls pm pw => ?_⟩
    have es : ns' = tsL n R r c := sorted_uniq (pm.trans ((List.perm_ext_iff_of_nodup gU.nd tsL_nd).mpr fun t => (gU.mem t).trans (tsL_mem ok hRl pr pc).symm)) pw tsL_le
    subst es
    refine q ls _ (fun b o e => ?_) upd_same
    exact Same.new hls _ _ (Same.new hl _ _ (k2 b o (nT e) e))
end
end My
namespace My
open PySem L2
noncomputable def PkL (H : Hp) (l : Addr) (S : List (List Nat)) : Prop := ∃ ps : List Addr, H l = some (.lst (ps.map V.ref)) /\ Paired (fun q (p : List Nat) => H q = some (.tup ((toZ p).map V.int))) ps S
theorem fm_sub (n b : Nat) : (List.range n).filterMap (fun j : Nat => if decide (V.int (((b : Int) / 2 ^ j) % 2) = V.int 1) = true then some (V.int (j : Int)) else none) = (toZ (subB n b)).map V.int := by
 unfold subB toZ
 induction List.range n with
 | nil => rfl
 | cons j l ih =>
  have e : decide (V.int (((b : Int) / 2 ^ j) % 2) = V.int 1) = decide (b / 2 ^ j % 2 = 1) := by
   have e1 : ((b : Int) / 2 ^ j) % 2 = ((b / 2 ^ j % 2 : Nat) : Int) := by
    rw [Int.natCast_emod, Int.natCast_ediv, Int.natCast_pow]
    rfl
   rw [e1, Bool.eq_iff_iff, decide_eq_true_eq, decide_eq_true_eq]
   constructor
   ·intro h
    injection h with h
    exact Om.k65 h
   ·intro h
    rw [h]
    rfl
  rw [List.filterMap_cons, e, List.filter_cons]
  cases h : decide (b / 2 ^ j % 2 = 1) with
  | true => rw [if_pos rfl, if_pos rfl, ih, List.map_cons, List.map_cons]
  | false => rw [if_neg Bool.false_ne_true, if_neg Bool.false_ne_true, ih]
theorem pk_perm {H : Hp} {ps : List Addr} {S : List (List Nat)} (h : Paired (fun q (p : List Nat) => H q = some (.tup ((toZ p).map V.int))) ps S) : ∀ (l : List Nat), (∀ i ∈ l, i < S.length) -> Paired (fun q (p : List Nat) => H q = some (.tup ((toZ p).map V.int))) (l.map fun i => ps.getD i 0) (l.map fun i => S.getD i [])
 | [], _ => .nil
 | i :: l, hl => by
  refine .cons ?_ (pk_perm h l fun j hj => hl j (List.mem_cons_of_mem _ hj))
  have hi := hl i List.mem_cons_self
  obtain ⟨q, hq, e⟩ := Paired.getR h (List.getElem?_eq_getElem hi)
  have e1 : ps.getD i 0 = q := by rw [List.getD_eq_getElem?_getD, hq]; rfl
  have e2 : S.getD i [] = S[i] := by rw [List.getD_eq_getElem?_getD, List.getElem?_eq_getElem hi]; rfl
  show H (ps.getD i 0) = some (.tup ((toZ (S.getD i [])).map V.int))
  rw [e1, e2]
  exact e
theorem pk_toZ {H : Hp} : ∀ {ps : List Addr} {S : List (List Nat)}, Paired (fun q (p : List Nat) => H q = some (.tup ((toZ p).map V.int))) ps S -> Paired (fun q (r : List Int) => H q = some (.tup (r.map V.int))) ps (S.map toZ)
 | _, _, .nil => .nil
 | _, _, .cons h t => .cons h (pk_toZ t)
noncomputable def SBto (n k b : Nat) : List (List Nat) := ((List.range b).map (subB n)).filter fun p => decide (p.length = k)
theorem SBto_succ (n k b : Nat) : SBto n k (b + 1) = if (subB n b).length = k then SBto n k b ++ [subB n b] else SBto n k b := by
 unfold SBto
 rw [List.range_succ, List.map_append, List.filter_append]
 by_cases h : (subB n b).length = k
 ·rw [if_pos h]
  congr 1
  simp [h]
 ·rw [if_neg h]
  simp [h]
theorem SBto_len (n k b : Nat) : (SBto n k b).length <= b := by
 unfold SBto
 refine Nat.le_trans (List.length_filter_le _ _) ?_
 rw [List.length_map, List.length_range]
 exact Nat.le_refl _
theorem pow6 : ∀ n, n < 7 -> 2 ^ n <= 64 := by decide
inductive SpSomeI (vs : List V) (H : Hp) (Q : VK) : Prop where
 | mk (n k : Nat) (_ : vs = [.int (n : Int), .int (k : Int)]) (_ : n <= 6) (_ : k < n) (_ : 2 <= k) (_ : ∀ (l : Addr) (H' : Hp), H l = none -> Same H H' -> PkL H' l (rp n k) -> Q (.ref l) H') : SpSomeI vs H Q
noncomputable def spSome : Sp := fun vs H Q _ => SpSomeI vs H Q
section
variable {P : Program} {w : World} {K : PySem.W.Frag} {mg : Str -> Option Value} {base : Heap}
theorem scSome : FnScope ["_law_many", "_law_size", "_law_found", "_law_bits_here", "_law_some_here"] ["_law_many", "_law_size"] (defScope sSome) := ⟨rfl, rfl, rfl, by decide +kernel, rfl, by decide +kernel, by decide +kernel⟩
theorem ok_some {f : Addr} {fd : FuncData} (F : Fun K "_law_some" "_law_some" sSome f fd) (T : Blt mg) : FnOk P w K mg base CX0 1 f fd ["_law_many", "_law_size"] spSome := by
 refine F.ok scSome (fun vs H Q E h => ?_) (fun cdv A outer s H vs Q E hr h => ?_)
 ·obtain ⟨_, _, rfl, _⟩ := h
  rfl
 ·obtain ⟨n, k, rfl, h6, hk, h2, q⟩ := h
  refine' ⟨_, pss_cons (ps_set (i := 2) scSome.nd rfl (Or.inl rfl) (pe_lst pa_nil)) (pss_cons (ps_for PassesOwn.never rfl (pi_range1 rfl T.range (pa_cons (pe_op op_shl pe_int (pv 0)) pa_nil)) (pg_name (i := 3) scSome.nd rfl (Or.inr rfl)) (pss_cons ?b0 (pss_one (ps_if ?c (pss_one ?d) pss_nil)))) (pss_one (ps_ret (pe_callB call_sortedTs rfl T.sorted PyProof.Rows.boot_sorted (pa_cons (pv 2) pa_nil))))), ?rd⟩
  case b0 => exact ps_set (i := 4) scSome.nd rfl (Or.inl rfl) (pe_callTy (call_tupleK K) rfl T.tuple bt_tuple (pa_cons (pe_lc ["_law_k", "_law_bits_here"] [none, some 3] rfl rfl (pi_range1 rfl T.range (pa_cons (pv 0) pa_nil)) (fun _ _ _ _ _ => pg_c 0) (fun _ _ _ _ _ => pts_one (pt_cmpR op_eq (pe_op op_mod (pe_op op_shr (pv 1) (pv 0)) pe_int) pe_int (nomark _))) (fun _ _ _ _ _ => pv 0)) pa_nil))
  case c => exact pt_cmpR op_eq (pe_callB (call_lenK K) rfl T.len PySem.boot_len (pa_cons (pv 4) pa_nil)) (pv 1) (nomark _)
  case d => exact ps_expr (pe_bm PySem.F.plainAttrs_list PySem.F.slot_list_append PySem.F.type_list_append mt_append (pv 2) (pa_cons (pv 4) pa_nil))
  case rd =>
   refine ⟨Nat.zero_le _, fun lf hlf => ?_⟩
   have hp64 := pow6 n (by exact Om.f3 ‹_›)
   refine ⟨_, rfl, _, _, rfl, rfl, ⟨by exact Om.c6, by exact Om.k64 h6, by decide⟩, ((2 ^ n : Nat) : Int), ?_, ?_⟩
   ·show [V.int (1 * 2 ^ ((n : Int)).toNat)] = _
    rw [Int.toNat_natCast, Int.one_mul, Int.natCast_pow]
    rfl
   have hSB : SBto n k (2 ^ n) = SB n k := rfl
   generalize 2 ^ n = M at hp64 hSB ⊢
   refine ⟨by exact Om.c2, by exact Om.c1 ‹_› rfl, ?_⟩
   rw [Int.toNat_natCast]
   refine for_range (lo := 0) (n := M) (fun b σ H2 => ∃ (v3 v4 : Option V) (ps : List Addr), σ = [some (.int (n : Int)), some (.int (k : Int)), some (.ref lf), v3, v4] /\ Same H H2 /\ H2 lf = some (.lst (ps.map V.ref)) /\ Paired (fun q (p : List Nat) => H2 q = some (.tup ((toZ p).map V.int))) ps (SBto n k b))
    ⟨none, none, [], rfl, Same.new hlf, upd_same, .nil⟩ ?_ ?_
   ·rintro b σ H2 hb ⟨v3, v4, ps, rfl, s2, h2', hP⟩
    rw [Int.zero_add]
    refine ⟨_, rfl, (n : Int), rfl, by exact Om.c2, by exact Om.c1 ‹_› rfl, fun lc hlc => ?_⟩
    rw [Int.toNat_natCast]
    refine comp_pure (fun j => if decide (V.int (((b : Int) / 2 ^ j) % 2) = V.int 1) = true then some (V.int (j : Int)) else none) (fun σ => ∃ v, σ = [v, some (.int (b : Int))]) (wlk_range (n := n)) (by rw [rng_len]; exact small6 (by exact Om.b1 ‹_› rfl)) hlc (fun _ _ => trivial) ⟨none, rfl⟩ ?_ ?_
    ·rintro j x σ H' R' hj ⟨v, rfl⟩ sm kk
     obtain ⟨hjn, rfl⟩ := rng_get hj
     have kk' := fun v' => kk [v', some (.int (b : Int))] H' ⟨v', rfl⟩ (Same.refl _)
     refine ⟨_, rfl, _, rfl, _, _, rfl, rfl, (by show (0 : Int) <= (j : Int); exact Om.c6), _, _, rfl, rfl, (by show (0 : Int) < 2; decide), rfl, _, rfl, ?_⟩
     refine ite2 (fun hd => ?_) (fun hd => ?_)
     ·have hd' : decide (V.int (((b : Int) / 2 ^ j) % 2) = V.int 1) = true := hd
      rw [if_pos hd'] at kk'
      exact ⟨_, rfl, kk' _⟩
     ·have hd' : ¬ decide (V.int (((b : Int) / 2 ^ j) % 2) = V.int 1) = true := hd
      rw [if_neg hd'] at kk'
      exact kk' _
    intro H3 s3 h3
    rw [rng_len, fm_sub] at h3
    refine ⟨lc, _, rfl, .inl ⟨SqL.of h3, fun tp htp => ?_⟩⟩
    have s4 : Same H3 (upd H3 tp (.tup ((toZ (subB n b)).map V.int))) := Same.new htp
    have ht4 : (upd H3 tp (.tup ((toZ (subB n b)).map V.int))) tp = some (.tup ((toZ (subB n b)).map V.int)) := upd_same
    generalize upd H3 tp (.tup ((toZ (subB n b)).map V.int)) = H4 at s4 ht4 ⊢
    have s34 := s3.trans s4
    have h24 := s34 _ _ h2'
    refine ⟨_, rfl, tp, _, rfl, .inr (SqT.of ht4), _, rfl, rfl, _, rfl, ?_⟩
    rw [List.length_map, toZ_len]
    refine ite2 (fun hd => ?_) (fun hd => ?_)
    ·have e : (subB n b).length = k := by
      have e := of_decide_eq_true hd
      injection e with e
      exact Om.e1 ‹_›
     have hpl := SBto_len n k b
     have up : ∀ b' row, H4 b' = some (.tup row) -> (upd H4 lf (.lst (ps.map V.ref ++ [.ref tp]))) b' = some (.tup row) := fun b' row e => by
      rw [upd_ne (ne_of e h24 (by intro z; cases z))]
      exact e
     refine ⟨_, rfl, .inl ⟨rfl, _, SqL.of h24⟩, _, rfl, lf, _, _, rfl, rfl, h24, by rw [List.length_map, hP.length]; exact small1000 (by exact Om.k63 hp64 hb hpl), _, _, ps ++ [tp], rfl, fun b' u e => ?_, by rw [upd_same, List.map_append]; rfl, ?_⟩
     ·rw [upd_ne (ne_of_none e hlf)]
      exact s34 _ _ (s2 _ _ e)
     ·rw [SBto_succ, if_pos e]
      exact Paired.snoc (Paired.mapP hP fun _ _ e => up _ _ (s34 _ _ e)) (up _ _ ht4)
    ·have e : ¬ (subB n b).length = k := fun e => hd (by rw [e]; exact decide_eq_true rfl)
     refine ⟨_, _, ps, rfl, s2.trans s34, h24, ?_⟩
     rw [SBto_succ, if_neg e]
     exact Paired.mapP hP fun _ _ e => s34 _ _ e
   ·rintro σ H2 ⟨v3, v4, ps, rfl, s2, h2', hP⟩
    rw [hSB] at hP
    obtain ⟨p, e1, e2, e3, e4⟩ := sorted_picks h6 hk h2
    obtain ⟨m1, m2⟩ := SB_many n (by exact Om.f3 ‹_›) k hk h2
    have zl : (SZ n k).length = (SB n k).length := List.length_map _
    refine ⟨_, rfl, lf, ps, SZ n k, k, p, rfl, h2', pk_toZ hP, fun r hr' => ?_, by exact Om.p1 ‹_›, ?_, ?_, e1, e2, e3, fun l hl => ?_⟩
    ·obtain ⟨x, hx, rfl⟩ := List.mem_map.mp hr'
     rw [toZ_len]
     exact SB_len x hx
    ·rw [zl]
     exact of_decide_eq_true m1
    ·rw [zl]
     exact of_decide_eq_true m2
    ·refine q l _ (s2.free hl) (s2.trans (Same.new hl)) ⟨_, upd_same, ?_⟩
     have := pk_perm hP p.toList (fun i hi => by rw [<- zl]; exact e3 i hi)
     rw [e4] at this
     exact Paired.mapP this fun _ _ e => Same.new hl _ _ e
end
end My
namespace My
open PySem L2
noncomputable def IsPr (H : Hp) (q : Addr) (p : List Nat × List Nat) : Prop := ∃ a b : Addr, H q = some (.tup [.ref a, .ref b]) /\ H a = some (.tup ((toZ p.1).map V.int)) /\ H b = some (.tup ((toZ p.2).map V.int))
noncomputable def PtL (H : Hp) (l : Addr) (L : List (List Nat × List Nat)) : Prop := ∃ ps : List Addr, H l = some (.lst (ps.map V.ref)) /\ ps.length <= 2000 /\ Paired (IsPr H) ps L
noncomputable def Kp (x : Addr) (H H' : Hp) : Prop := ∀ b o, b ≠ x -> H b = some o -> H' b = some o
theorem Kp.refl {x : Addr} {H : Hp} : Kp x H H := fun _ _ _ e => e
theorem Kp.same {x : Addr} {H H1 H2 : Hp} (h : Kp x H H1) (s : Same H1 H2) : Kp x H H2 := fun b o hb e => s _ _ (h b o hb e)
theorem Kp.put {x : Addr} {H H1 : Hp} {o : HO} (h : Kp x H H1) : Kp x H (upd H1 x o) := fun b o hb e => by rw [upd_ne hb]; exact h b o hb e
theorem IsPr.up {H H' : Hp} {q : Addr} {p : List Nat × List Nat} (h : IsPr H q p) (f : ∀ b row, H b = some (.tup row) -> H' b = some (.tup row)) : IsPr H' q p :=
 let ⟨a, b, h1, h2, h3⟩ := h
 ⟨a, b, f _ _ h1, f _ _ h2, f _ _ h3⟩
theorem up_lst {H : Hp} {l : Addr} {xs : List V} {o : HO} (h : H l = some (.lst xs)) : ∀ b row, H b = some (.tup row) -> (upd H l o) b = some (.tup row) := fun b row e => by
 rw [upd_ne (ne_of e h (by intro z; cases z))]
 exact e
theorem PtL.same {l : Addr} {H H1 : Hp} {S : List (List Nat × List Nat)} (g : PtL H l S) (x : Same H H1) : PtL H1 l S :=
 let ⟨ps, h, b, r⟩ := g
 ⟨ps, x _ _ h, b, Paired.mapP r fun _ _ z => z.up fun _ _ e => x _ _ e⟩
theorem partsK_take {n k i : Nat} {R : List (List Int)} {r : List Nat} (h : (rp n k)[i]? = some r) : ((rp n k).take (i + 1)).flatMap (rowK n R k) = ((rp n k).take i).flatMap (rowK n R k) ++ rowK n R k r := by
 rw [List.take_add_one, h, List.flatMap_append]
 simp
noncomputable def rowTk (n : Nat) (R : List (List Int)) (k : Nat) (r : List Nat) (i : Nat) : List (List Nat × List Nat) := (((rp n k).take i).filter fun c => decide (cntT n (valsL R r c) = k)).map fun c => (r, c)
theorem rowTk_all {n k : Nat} {R : List (List Int)} {r : List Nat} : rowTk n R k r (rp n k).length = rowK n R k r := by
 unfold rowTk rowK
 rw [List.take_length]
theorem rowTk_succ {n k i : Nat} {R : List (List Int)} {r c : List Nat} (h : (rp n k)[i]? = some c) : rowTk n R k r (i + 1) = if cntT n (valsL R r c) = k then rowTk n R k r i ++ [(r, c)] else rowTk n R k r i := by
 unfold rowTk
 rw [List.take_add_one, h, List.filter_append, List.map_append]
 by_cases e : cntT n (valsL R r c) = k
 ·rw [if_pos e]
  congr 1
  simp [e]
 ·rw [if_neg e]
  simp [e]
theorem range'_one (i : Nat) (m : Nat) : List.range' m (i + 1) = List.range' m i ++ [m + i] := by
 rw [List.range'_concat, Nat.one_mul]
theorem few {m : Nat} (h : m < 100000) : m < sizeLine := by rw [sizeLine_eq]; exact Om.k62 h
inductive SpDueI (vs : List V) (H : Hp) (Q : VK) : Prop where
 | mk (g : Addr) (n : Nat) (R : List (List Int)) (_ : vs = [.ref g]) (_ : TG H g R) (_ : OkRows n R) (_ : R.length = n) (_ : n <= 6) (_ : ∀ (l : Addr) (H' : Hp), H l = none -> Same H H' -> PtL H' l (dueL n R) -> Q (.ref l) H') : SpDueI vs H Q
noncomputable def spDue : Sp := fun vs H Q _ => SpDueI vs H Q
section
variable {P : Program} {w : World} {K : PySem.W.Frag} {mg : Str -> Option Value} {base : Heap}
theorem scDue : FnScope ["_law_square_here", "_law_size", "_law_found", "_law_many", "_law_some_here", "_law_rows", "_law_columns"] ["_law_square_here"] (defScope sDue) := ⟨rfl, rfl, rfl, by decide +kernel, rfl, by decide +kernel, by decide +kernel⟩
theorem ok_due {f fS fT : Addr} {fd dS dT : FuncData} (F : Fun K "_law_due" "_law_due" sDue f fd) (T : Blt mg) (DS : Dfn K mg "_law_some" sSome ["_law_many", "_law_size"] fS dS) (DT : Dfn K mg "_law_things" sThings ["_law_square_here", "_law_rows", "_law_columns"] fT dT) : FnOk P w K mg base CX0 2 f fd ["_law_square_here"] spDue := by
 have GS : FnOk P w K mg base CX0 1 fS dS ["_law_many", "_law_size"] spSome := ok_some DS.F T
 have GT : FnOk P w K mg base CX0 1 fT dT ["_law_square_here", "_law_rows", "_law_columns"] spThings := ok_things DT.F T
 refine F.ok scDue (fun vs H Q E h => ?_) (fun cdv A outer s H vs Q E hr h => ?_)
 ·obtain ⟨_, _, _, rfl, _⟩ := h
  rfl
 ·obtain ⟨g, n, R, rfl, hT, ok, hRl, h6, q⟩ := h
  refine' ⟨_, pss_cons ?s0 (pss_cons (ps_set (i := 2) scDue.nd rfl (Or.inl rfl) (pe_lst pa_nil)) (pss_cons (ps_for PassesOwn.never rfl (pi_range2 rfl T.range (pa_cons pe_int (pa_cons (pv 1) pa_nil))) (pg_name (i := 3) scDue.nd rfl (Or.inl rfl)) (pss_cons ?b0 (pss_one (ps_for PassesOwn.never rfl (pi_list (pv 4)) (pg_name (i := 5) scDue.nd rfl (Or.inl rfl)) (pss_one (ps_for PassesOwn.never rfl (pi_list (pv 4)) (pg_name (i := 6) scDue.nd rfl (Or.inl rfl)) (pss_one (ps_if ?c (pss_one ?d) pss_nil)))))))) (pss_one (ps_ret (pv 2))))), ?rd⟩
  case s0 => exact ps_set (i := 1) scDue.nd rfl (Or.inl rfl) (pe_callB (call_lenK K) rfl T.len PySem.boot_len (pa_cons (pv 0) pa_nil))
  case b0 => exact ps_set (i := 4) scDue.nd rfl (Or.inl rfl) (pe_call GS hr rfl DS.m DS.F.kp DS.b .nil pass0 (pa_cons (pv 1) (pa_cons (pv 3) pa_nil)))
  case c => exact pt_cmpR op_eq (pe_callB (call_lenK K) rfl T.len PySem.boot_len (pa_cons (pe_call GT hr rfl DT.m DT.F.kp DT.b .nil pass0 (pa_cons (pv 0) (pa_cons (pv 5) (pa_cons (pv 6) pa_nil)))) pa_nil)) (pv 3) (nomark _)
  case d => exact ps_expr (pe_bm PySem.F.plainAttrs_list PySem.F.slot_list_append PySem.F.type_list_append mt_append (pv 2) (pa_cons (pe_tup (pa_cons (pv 5) (pa_cons (pv 6) pa_nil))) pa_nil))
  case rd =>
   obtain ⟨gs, hg, hG⟩ := id hT
   have hgl : gs.length = n := by rw [hG.length, hRl]
   refine ⟨_, rfl, g, _, rfl, .inr (SqT.of hg), ?_⟩
   rw [List.length_map, hgl]
   refine ⟨Nat.zero_le _, fun lf hlf => ?_⟩
   refine ⟨_, rfl, 2, (n : Int), rfl, ⟨by exact Om.k61 , by exact Om.k60 , by exact Om.c2, by exact Om.c1 ‹_› rfl⟩, ?_⟩
   rw [show ((n : Int) - 2).toNat = n - 2 by exact Om.k59 hRl h6 hgl]
   refine for_range (lo := 2) (n := n - 2) (fun i σ H2 => ∃ (v3 v4 v5 v6 : Option V) (ps : List Addr), σ = [some (.ref g), some (.int (n : Int)), some (.ref lf), v3, v4, v5, v6] /\ Same H H2 /\ H2 lf = some (.lst (ps.map V.ref)) /\ ps.length <= 400 * i /\ Paired (IsPr H2) ps ((List.range' 2 i).flatMap (partsK n R)))
    ⟨none, none, none, none, [], rfl, Same.new hlf, upd_same, Nat.le_refl _, .nil⟩ ?_ ?_
   ·rintro i σ H2 hi ⟨v3, v4, v5, v6, ps, rfl, s2, h2, hpl, hP⟩
    rw [show (2 : Int) + (i : Int) = ((2 + i : Nat) : Int) by exact Om.k58 ]
    generalize hL0 : (List.range' 2 i).flatMap (partsK n R) = L0 at hP
    have hL1 : (List.range' 2 (i + 1)).flatMap (partsK n R) = L0 ++ partsK n R (2 + i) := by
     rw [range'_one, List.flatMap_append, hL0]
     simp
    have hk : 2 + i < n := by exact Om.k57 hgl hi
    have hk2 : 2 <= 2 + i := by exact Om.k56 
    generalize 2 + i = k at hL1 hk hk2 ⊢
    refine ⟨_, rfl, _, rfl, n, k, rfl, h6, hk, hk2, fun l4 H3 hl4 s3 hPk => ?_⟩
    obtain ⟨qs, hq, hQ⟩ := hPk
    have h3 := s3 _ _ h2
    have hP3 : Paired (IsPr H3) ps L0 := Paired.mapP hP fun _ _ z => z.up fun _ _ e => s3 _ _ e
    have hne : l4 ≠ lf := fun z => by rw [z, h2] at hl4; cases hl4
    have hfw : (rp n k).length <= 20 := of_decide_eq_true (rp_few n (by exact Om.f3 ‹_›) k (by exact Om.k55 hRl h6 hgl hk))
    have hql : qs.length = (rp n k).length := hQ.length
    have sH3 := s2.trans s3
    have hT3 := hT.same sH3
    have tup3 : ∀ {H' : Hp}, Kp lf H3 H' -> ∀ b row, H3 b = some (.tup row) -> H' b = some (.tup row) := fun kp b row e => kp _ _ (ne_of e h3 (by intro z; cases z)) e
    have getq : ∀ {H' : Hp} {j : Nat} {x : V}, Kp lf H3 H' -> (qs.map V.ref)[j]? = some x -> ∃ (p : Addr) (r : List Nat), x = .ref p /\ (rp n k)[j]? = some r /\ H' p = some (.tup ((toZ r).map V.int)) := fun {H' j x} kp hx => by
     rw [List.getElem?_map] at hx
     cases hpj : qs[j]? with
     | none => rw [hpj] at hx; cases hx
     | some p =>
      rw [hpj] at hx
      cases hx
      obtain ⟨r, hrj, hp⟩ := Paired.getL hQ hpj
      exact ⟨p, r, rfl, hrj, tup3 kp _ _ hp⟩
    have TG3 : ∀ {H' : Hp}, Kp lf H3 H' -> TG H' g R := fun kp => by
     obtain ⟨gs', a1, a2⟩ := hT3
     exact ⟨gs', tup3 kp _ _ a1, Paired.mapP a2 fun _ _ e => tup3 kp _ _ e⟩
    refine ⟨_, rfl, l4, rfl, ⟨_, SqL.of hq⟩, for_list (xs := qs.map V.ref) (fun j σ H4 => ∃ (v5 v6 : Option V) (ps : List Addr), σ = [some (.ref g), some (.int (n : Int)), some (.ref lf), some (.int (k : Int)), some (.ref l4), v5, v6] /\ Kp lf H3 H4 /\ H4 lf = some (.lst (ps.map V.ref)) /\ ps.length <= 400 * i + 20 * j /\ Paired (IsPr H4) ps (L0 ++ ((rp n k).take j).flatMap (rowK n R k)))
     ⟨_, _, ps, rfl, Kp.refl, h3, by exact Om.k54 hpl, by simpa using hP3⟩ (fun j σ H4 _ zz0 => by obtain ⟨_, _, _, _, k4, _⟩ := zz0; exact SqL.of (k4 _ _ hne hq)) ?_ ?_⟩
    ·rintro j x σ H4 hx ⟨w5, w6, ps, rfl, k4, h4, hpl, hP⟩
     obtain ⟨pr, r, rfl, hrj, hpr⟩ := getq k4 hx
     have hjl : j < 20 := Nat.lt_of_lt_of_le (List.getElem?_eq_some_iff.mp hrj).1 hfw
     have pkr := rp_pick h6 (by exact Om.b2 ‹_› ‹_› rfl) (List.mem_of_getElem? hrj)
     generalize hM0 : L0 ++ ((rp n k).take j).flatMap (rowK n R k) = M0 at hP
     have hM1 : L0 ++ ((rp n k).take (j + 1)).flatMap (rowK n R k) = M0 ++ rowK n R k r := by
      rw [partsK_take hrj, <- hM0, List.append_assoc]
     refine ⟨_, rfl, l4, rfl, ⟨_, SqL.of (k4 _ _ hne hq)⟩, for_list (xs := qs.map V.ref) (fun m σ H5 => ∃ (v6 : Option V) (ps : List Addr), σ = [some (.ref g), some (.int (n : Int)), some (.ref lf), some (.int (k : Int)), some (.ref l4), some (.ref pr), v6] /\ Kp lf H3 H5 /\ H5 pr = some (.tup ((toZ r).map V.int)) /\ H5 lf = some (.lst (ps.map V.ref)) /\ ps.length <= 400 * i + 20 * j + m /\ Paired (IsPr H5) ps (M0 ++ rowTk n R k r m))
      ⟨_, ps, rfl, k4, hpr, h4, by exact Om.k53 hpl, by simpa [rowTk] using hP⟩ (fun m σ H5 _ zz0 => by obtain ⟨_, _, _, k5, _⟩ := zz0; exact SqL.of (k5 _ _ hne hq)) ?_ ?_⟩
     ·rintro m x σ H5 hx ⟨u6, ps, rfl, k5, hpr5, h5, hpl, hP⟩
      obtain ⟨pc, c, rfl, hcm, hpc⟩ := getq k5 hx
      have hml : m < 20 := Nat.lt_of_lt_of_le (List.getElem?_eq_some_iff.mp hcm).1 hfw
      have pkc := rp_pick h6 (by exact Om.b2 ‹_› ‹_› rfl) (List.mem_of_getElem? hcm)
      refine ⟨_, rfl, _, rfl, _, rfl, g, pr, pc, n, k, R, r, c, rfl, TG3 k5, ok, hRl, h6, hpr5, hpc, pkr, pkc, by exact Om.b2 ‹_› ‹_› rfl, fun ld H6 s6 hld => ?_⟩
      have k6 := k5.same s6
      have h65 := s6 _ _ h5
      have hpr6 := s6 _ _ hpr5
      have hpc6 := s6 _ _ hpc
      have hP6 : Paired (IsPr H6) ps _ := Paired.mapP hP fun _ _ z => z.up fun _ _ e => s6 _ _ e
      refine ⟨ld, _, rfl, .inl (SqL.of hld), _, rfl, rfl, _, rfl, ?_⟩
      rw [List.length_map, tsL_len]
      refine ite2 (fun hd => ?_) (fun hd => ?_)
      ·have e : cntT n (valsL R r c) = k := by
        have e := of_decide_eq_true hd
        injection e with e
        exact Om.e1 ‹_›
       refine ⟨_, rfl, .inl ⟨rfl, _, SqL.of h65⟩, _, rfl, _, rfl, (show 2 <= sizeLine from small6 (by decide)), fun tp htp => ?_⟩
       have s7 : Same H6 (upd H6 tp (.tup [.ref pr, .ref pc])) := Same.new htp
       have ht7 : (upd H6 tp (.tup [.ref pr, .ref pc])) tp = some (.tup [.ref pr, .ref pc]) := upd_same
       generalize upd H6 tp (.tup [.ref pr, .ref pc]) = H7 at s7 ht7 ⊢
       have h7 := s7 _ _ h65
       refine ⟨lf, _, _, rfl, rfl, h7, by rw [List.length_map]; exact few (by exact Om.k52 hRl h6 hgl hi hjl hpl hml), _, ps ++ [tp], rfl, (k6.same s7).put, up_lst h7 _ _ (s7 _ _ hpr6), by rw [upd_same, List.map_append]; rfl, by rw [List.length_append]; exact Nat.succ_le_succ hpl, ?_⟩
       rw [rowTk_succ hcm, if_pos e, <- List.append_assoc]
       exact Paired.snoc (Paired.mapP hP6 fun _ _ z => z.up fun _ _ e => up_lst h7 _ _ (s7 _ _ e)) ⟨pr, pc, up_lst h7 _ _ ht7, up_lst h7 _ _ (s7 _ _ hpr6), up_lst h7 _ _ (s7 _ _ hpc6)⟩
      ·have e : ¬ cntT n (valsL R r c) = k := fun e => hd (by rw [e]; exact decide_eq_true rfl)
       refine ⟨_, ps, rfl, k6, hpr6, h65, by exact Om.k51 hpl, ?_⟩
       rw [rowTk_succ hcm, if_neg e]
       exact hP6
     ·rintro σ H5 ⟨u6, ps, rfl, k5, hpr5, h5, hpl, hP⟩
      rw [List.length_map, hql] at hpl hP
      rw [rowTk_all] at hP
      refine ⟨_, _, ps, rfl, k5, h5, by exact Om.k50 hfw hql hpl, ?_⟩
      rw [hM1]
      exact hP
    ·rintro σ H4 ⟨w5, w6, ps, rfl, k4, h4, hpl, hP⟩
     rw [List.length_map, hql] at hpl hP
     rw [List.take_length] at hP
     refine ⟨_, _, _, _, ps, rfl, fun b o e => k4 _ _ (ne_of_none e hlf) (sH3 _ _ e), h4, by exact Om.k49 hfw hql hpl, ?_⟩
     rw [hL1]
     exact hP
   ·rintro σ H2 ⟨v3, v4, v5, v6, ps, rfl, s2, h2, hpl, hP⟩
    exact ⟨_, rfl, q lf H2 hlf s2 ⟨ps, h2, by exact Om.k48 hRl h6 hgl hpl, hP⟩⟩
end
end My
namespace My
open PySem L2
theorem gD {α : Type} {l : List α} {i : Nat} {d : α} (h : i < l.length) : l.getD i d = l[i] := by rw [List.getD_eq_getElem?_getD, List.getElem?_eq_getElem h]; rfl
theorem gD_mem {α : Type} {l : List α} {i : Nat} {d : α} (h : i < l.length) : l.getD i d ∈ l := by rw [gD h]; exact List.getElem_mem h
theorem gD_inj {α : Type} {l : List α} (nd : l.Nodup) {i j : Nat} {d : α} (hi : i < l.length) (hj : j < l.length) (e : l.getD i d = l.getD j d) : i = j := by
 rw [gD hi, gD hj] at e
 exact (List.getElem_inj nd).mp e
theorem ix_lt {l : List Nat} {x : Nat} (h : x ∈ l) : l.idxOf x < l.length := List.idxOf_lt_length_iff.mpr h
theorem ix_at {l : List Nat} {x : Nat} (h : x ∈ l) : l.getD (l.idxOf x) 0 = x := by rw [gD (ix_lt h)]; exact List.getElem_idxOf (ix_lt h)
theorem ix_of {l : List Nat} (nd : l.Nodup) {a : Nat} (ha : a < l.length) : l.idxOf (l.getD a 0) = a :=
 gD_inj nd (ix_lt (gD_mem ha)) ha (ix_at (gD_mem ha))
theorem ix_inj {l : List Nat} {x y : Nat} (hx : x ∈ l) (hy : y ∈ l) (e : l.idxOf x = l.idxOf y) : x = y := by rw [<- ix_at hx, <- ix_at hy, e]
structure PartOk (n k : Nat) (R : List (List Int)) (r c : List Nat) : Prop where
 pr : Pick n k r
 pc : Pick n k c
 cnt : cntT n (valsL R r c) = k
noncomputable def putF (R : List (List Int)) (r c : List Nat) (ts : List Int) (I : List (List Int)) (i j : Nat) : Int := if i ∈ r /\ j ∈ c then ts.getD (ent I (r.idxOf i) (c.idxOf j)).toNat 0 else ent R i j
section
variable {n k : Nat} {R I : List (List Int)} {r c : List Nat}
theorem PartOk.len (p : PartOk n k R r c) : (tsL n R r c).length = k := tsL_len.trans p.cnt
theorem PartOk.row (p : PartOk n k R r c) (ok : OkRows n R) (hl : R.length = n) {i : Nat} (hi : i ∈ r) {t : Int} (ht : t ∈ tsL n R r c) : ∃ j ∈ c, ent R i j = t := by
 have hW : (c.map fun j => ent R i j).Nodup := nodup_map_on p.pc.nd fun a ha b hb e => (ent_row ok hl (p.pr.lt i hi)).inj (p.pc.lt a ha) (p.pc.lt b hb) e
 exact List.mem_map.mp (all_of_len hW (fun x hx => by
  obtain ⟨j, hj, rfl⟩ := List.mem_map.mp hx
  exact (tsL_mem ok hl p.pr p.pc).mpr (mem_vals.mpr ⟨i, hi, j, hj, rfl⟩)) (by rw [List.length_map, p.pc.len, p.len]; exact Nat.le_refl _) t ht)
theorem PartOk.col (p : PartOk n k R r c) (ok : OkRows n R) (hl : R.length = n) {j : Nat} (hj : j ∈ c) {t : Int} (ht : t ∈ tsL n R r c) : ∃ i ∈ r, ent R i j = t := by
 have hW : (r.map fun i => ent R i j).Nodup := nodup_map_on p.pr.nd fun a ha b hb e => ent_col ok hl (p.pr.lt a ha) (p.pr.lt b hb) (p.pc.lt j hj) e
 exact List.mem_map.mp (all_of_len hW (fun x hx => by
  obtain ⟨i, hi, rfl⟩ := List.mem_map.mp hx
  exact (tsL_mem ok hl p.pr p.pc).mpr (mem_vals.mpr ⟨i, hi, j, hj, rfl⟩)) (by rw [List.length_map, p.pr.len, p.len]; exact Nat.le_refl _) t ht)
theorem PartOk.rowOut (p : PartOk n k R r c) (ok : OkRows n R) (hl : R.length = n) {i j : Nat} (hi : i ∈ r) (hj : j < n) (hn : j ∉ c) : ent R i j ∉ tsL n R r c := fun h => by
 obtain ⟨j', hj', e⟩ := p.row ok hl hi h
 have := (ent_row ok hl (p.pr.lt i hi)).inj (p.pc.lt j' hj') hj e
 exact hn (this ▸ hj')
theorem PartOk.colOut (p : PartOk n k R r c) (ok : OkRows n R) (hl : R.length = n) {i j : Nat} (hi : i < n) (hn : i ∉ r) (hj : j ∈ c) : ent R i j ∉ tsL n R r c := fun h => by
 obtain ⟨i', hi', e⟩ := p.col ok hl hj h
 have := ent_col ok hl (p.pr.lt i' hi') hi (p.pc.lt j hj) e
 exact hn (this ▸ hi')
theorem inner_lt (okI : OkRows k I) (hI : I.length = k) {a b : Nat} (ha : a < k) (hb : b < k) : (ent I a b).toNat < k := by
 have := (ent_row okI hI ha).val hb
 unfold ent
 omega
theorem putF_in {ts : List Int} {i j : Nat} (hi : i ∈ r) (hj : j ∈ c) : putF R r c ts I i j = ts.getD (ent I (r.idxOf i) (c.idxOf j)).toNat 0 := if_pos ⟨hi, hj⟩
theorem putF_out {ts : List Int} {i j : Nat} (h : ¬ (i ∈ r /\ j ∈ c)) : putF R r c ts I i j = ent R i j := if_neg h
theorem put_mem (p : PartOk n k R r c) (okI : OkRows k I) (hI : I.length = k) {i j : Nat} (hi : i ∈ r) (hj : j ∈ c) : putF R r c (tsL n R r c) I i j ∈ tsL n R r c := by
 rw [putF_in hi hj]
 exact gD_mem (by rw [p.len]; exact inner_lt okI hI (by rw [<- p.pr.len]; exact ix_lt hi) (by rw [<- p.pc.len]; exact ix_lt hj))
theorem put_ok (p : PartOk n k R r c) (ok : OkRows n R) (hl : R.length = n) (okI : OkRows k I) (hI : I.length = k) : OkRows n (mk n (putF R r c (tsL n R r c) I)) /\ (mk n (putF R r c (tsL n R r c) I)).length = n := by
 have ixr : ∀ {i}, i ∈ r -> r.idxOf i < k := fun h => by rw [<- p.pr.len]; exact ix_lt h
 have ixc : ∀ {i}, i ∈ c -> c.idxOf i < k := fun h => by rw [<- p.pc.len]; exact ix_lt h
 have inj : ∀ {a b a' b' : Nat}, a < k -> b < k -> a' < k -> b' < k -> (tsL n R r c).getD (ent I a b).toNat 0 = (tsL n R r c).getD (ent I a' b').toNat 0 -> ent I a b = ent I a' b' := fun {a b a' b'} h1 h2 h3 h4 e => by
  have := gD_inj tsL_nd (by rw [p.len]; exact inner_lt okI hI h1 h2) (by rw [p.len]; exact inner_lt okI hI h3 h4) e
  have v1 := (ent_row okI hI h1).val h2
  have v2 := (ent_row okI hI h3).val h4
  unfold ent at this ⊢
  omega
 refine mk_ok (fun i j hi hj => ?_) (fun i j j' hi hj hj' e => ?_) (fun i i' j hi hi' hj e => ?_)
 ·by_cases h : i ∈ r /\ j ∈ c
  ·exact vals_rg ok hl p.pr p.pc _ ((tsL_mem ok hl p.pr p.pc).mp (put_mem p okI hI h.1 h.2))
  ·rw [putF_out h]
   exact ent_rg ok hl hi hj
 ·by_cases hr : i ∈ r
  ·by_cases h1 : j ∈ c
   ·by_cases h2 : j' ∈ c
    ·rw [putF_in hr h1, putF_in hr h2] at e
     have := inj (ixr hr) (ixc h1) (ixr hr) (ixc h2) e
     exact ix_inj h1 h2 ((ent_row okI hI (ixr hr)).inj (ixc h1) (ixc h2) this)
    ·have m := put_mem p okI hI hr h1
     rw [e, putF_out (fun z => h2 z.2)] at m
     exact absurd m (p.rowOut ok hl hr hj' h2)
   ·by_cases h2 : j' ∈ c
    ·have m := put_mem p okI hI hr h2
     rw [<- e, putF_out (fun z => h1 z.2)] at m
     exact absurd m (p.rowOut ok hl hr hj h1)
    ·rw [putF_out (fun z => h1 z.2), putF_out (fun z => h2 z.2)] at e
     exact (ent_row ok hl hi).inj hj hj' e
  ·rw [putF_out (fun z => hr z.1), putF_out (fun z => hr z.1)] at e
   exact (ent_row ok hl hi).inj hj hj' e
 ·by_cases hc : j ∈ c
  ·by_cases h1 : i ∈ r
   ·by_cases h2 : i' ∈ r
    ·rw [putF_in h1 hc, putF_in h2 hc] at e
     have := inj (ixr h1) (ixc hc) (ixr h2) (ixc hc) e
     exact ix_inj h1 h2 (ent_col okI hI (ixr h1) (ixr h2) (ixc hc) this)
    ·have m := put_mem p okI hI h1 hc
     rw [e, putF_out (fun z => h2 z.1)] at m
     exact absurd m (p.colOut ok hl hi' h2 hc)
   ·by_cases h2 : i' ∈ r
    ·have m := put_mem p okI hI h2 hc
     rw [<- e, putF_out (fun z => h1 z.1)] at m
     exact absurd m (p.colOut ok hl hi h1 hc)
    ·rw [putF_out (fun z => h1 z.1), putF_out (fun z => h2 z.1)] at e
     exact ent_col ok hl hi hi' hj e
  ·rw [putF_out (fun z => hc z.2), putF_out (fun z => hc z.2)] at e
   exact ent_col ok hl hi hi' hj e
theorem mk_congr {n : Nat} {f g : Nat -> Nat -> Int} (h : ∀ i j, i < n -> j < n -> f i j = g i j) : mk n f = mk n g := by
 unfold mk
 refine List.map_congr_left fun i hi => List.map_congr_left fun j hj => h i j (List.mem_range.mp hi) (List.mem_range.mp hj)
noncomputable def part1 (R : List (List Int)) (r c : List Nat) (ts : List Int) (I : List (List Int)) (a b : Nat) (i j : Nat) : Int := if (i ∈ r.take a /\ j ∈ c) \/ (i = r.getD a 0 /\ j ∈ c.take b) then ts.getD (ent I (r.idxOf i) (c.idxOf j)).toNat 0 else ent R i j
theorem part1_0 {ts : List Int} {i j : Nat} : part1 R r c ts I 0 0 i j = ent R i j := by unfold part1; simp
theorem part1_end {ts : List Int} {a i j : Nat} (ha : a < r.length) : part1 R r c ts I a c.length i j = part1 R r c ts I (a + 1) 0 i j := by
 unfold part1
 rw [List.take_length, <- List.take_append_getElem ha]
 have e : r.getD a 0 = r[a] := gD ha
 rw [e]
 congr 1
 simp only [List.mem_append, List.mem_singleton, List.take_zero, List.not_mem_nil, and_false, or_false, eq_iff_iff]
 constructor
 ·rintro (⟨h1, h2⟩ | ⟨h1, h2⟩)
  ·exact ⟨.inl h1, h2⟩
  ·exact ⟨.inr h1, h2⟩
 ·rintro ⟨h1 | h1, h2⟩
  ·exact .inl ⟨h1, h2⟩
  ·exact .inr ⟨h1, h2⟩
theorem part1_all {ts : List Int} {i j : Nat} : part1 R r c ts I r.length 0 i j = putF R r c ts I i j := by
 unfold part1 putF
 rw [List.take_length]
 simp
theorem part1_succ {ts : List Int} {a b i j : Nat} (nr : r.Nodup) (nc : c.Nodup) (ha : a < r.length) (hb : b < c.length) : part1 R r c ts I a (b + 1) i j = if i = r.getD a 0 /\ j = c.getD b 0 then ts.getD (ent I a b).toNat 0 else part1 R r c ts I a b i j := by
 by_cases h : i = r.getD a 0 /\ j = c.getD b 0
 ·rw [if_pos h]
  obtain ⟨rfl, rfl⟩ := h
  have mt : c.getD b 0 ∈ c.take (b + 1) := by
   have m1 : c[b] ∈ c.take b ++ [c[b]] := List.mem_append_right _ List.mem_cons_self
   rw [List.take_append_getElem hb] at m1
   rw [gD hb]
   exact m1
  unfold part1
  rw [if_pos (.inr ⟨rfl, mt⟩), ix_of nr ha, ix_of nc hb]
 ·rw [if_neg h]
  unfold part1
  congr 1
  have e : c.getD b 0 = c[b] := gD hb
  rw [<- List.take_append_getElem hb, List.mem_append, List.mem_singleton, eq_iff_iff]
  constructor
  ·rintro (h1 | ⟨h1, h2 | h2⟩)
   ·exact .inl h1
   ·exact .inr ⟨h1, h2⟩
   ·exact absurd ⟨h1, h2.trans e.symm⟩ h
  ·rintro (h1 | ⟨h1, h2⟩)
   ·exact .inl h1
   ·exact .inr ⟨h1, .inl h2⟩
end
end My
namespace My
open PySem L2
theorem set_form {α : Type} {l : List α} {i : Nat} {x : α} (h : i < l.length) : l.take i ++ x :: l.drop (i + 1) = l.set i x := by rw [List.set_eq_take_append_cons_drop, if_pos h]
theorem map_set {α : Type} {n : Nat} {g : Nat -> α} {j : Nat} {v : α} : ((List.range n).map g).set j v = (List.range n).map fun b => if b = j then v else g b := by
 refine List.ext_getElem (by simp) fun b h1 h2 => ?_
 rw [List.getElem_set, List.getElem_map, List.getElem_map, List.getElem_range]
 by_cases e : j = b
 ·rw [if_pos e, if_pos e.symm]
 ·rw [if_neg e, if_neg (Ne.symm e)]
noncomputable def setI (R : List (List Int)) (i j : Nat) (v : Int) : List (List Int) := R.take i ++ ((R.getD i []).take j ++ v :: (R.getD i []).drop (j + 1)) :: R.drop (i + 1)
theorem mk_len (n : Nat) (f : Nat -> Nat -> Int) : (mk n f).length = n := by unfold mk; rw [List.length_map, List.length_range]
theorem mk_row {n : Nat} {f : Nat -> Nat -> Int} {i : Nat} (h : i < n) : (mk n f).getD i [] = (List.range n).map fun c => f i c := by
 rw [gD (by rw [mk_len]; exact h)]
 unfold mk
 rw [List.getElem_map, List.getElem_range]
theorem setI_mk {n : Nat} {f : Nat -> Nat -> Int} {i j : Nat} {v : Int} (hi : i < n) (hj : j < n) : setI (mk n f) i j v = mk n fun a b => if a = i /\ b = j then v else f a b := by
 unfold setI
 rw [set_form (by rw [mk_len]; exact hi), mk_row hi, set_form (by rw [List.length_map, List.length_range]; exact hj), map_set]
 unfold mk
 rw [map_set]
 refine List.map_congr_left fun a _ => ?_
 by_cases e : a = i
 ·rw [if_pos e]
  refine List.map_congr_left fun b _ => ?_
  subst e
  show (if b = j then v else f a b) = if a = a /\ b = j then v else f a b
  by_cases e2 : b = j
  ·rw [if_pos e2, if_pos ⟨rfl, e2⟩]
  ·rw [if_neg e2, if_neg (fun z => e2 z.2)]
 ·rw [if_neg e]
  refine List.map_congr_left fun b _ => ?_
  show f a b = if a = i /\ b = j then v else f a b
  rw [if_neg (fun z => e z.1)]
theorem rp_self : ∀ n, n < 7 -> ∀ k, k < 7 -> ((rp n k).all fun p => decide ((List.range n).filter (fun x => decide (x ∈ p)) = p)) = true := by decide +kernel
theorem Paired.take33 {α β : Type} {F : α -> β -> Prop} : ∀ {l₁ : List α} {l₂ : List β} (k : Nat), Paired F l₁ l₂ -> Paired F (l₁.take k) (l₂.take k)
 | _, _, 0, _ => .nil
 | _, _, _ + 1, .nil => .nil
 | _, _, k + 1, .cons r t => .cons r (Paired.take33 k t)
theorem Paired.drop33 {α β : Type} {F : α -> β -> Prop} : ∀ {l₁ : List α} {l₂ : List β} (k : Nat), Paired F l₁ l₂ -> Paired F (l₁.drop k) (l₂.drop k)
 | _, _, 0, r => r
 | _, _, _ + 1, .nil => .nil
 | _, _, k + 1, .cons _ t => Paired.drop33 k t
inductive SpWithI (vs : List V) (H : Hp) (Q : VK) : Prop where
 | mk (a : Addr) (n : Nat) (R : List (List Int)) (r c : Nat) (v : Int) (_ : vs = [.ref a, .int (r : Int), .int (c : Int), .int v]) (_ : TG H a R) (_ : R.length = n) (_ : (R.getD r []).length = n) (_ : n <= 6) (_ : r < n) (_ : c < n) (_ : ∀ p H', Same H H' -> TG H' p (setI R r c v) -> Q (.ref p) H') : SpWithI vs H Q
noncomputable def spWith : Sp := fun vs H Q _ => SpWithI vs H Q
theorem fm_ent (R : List (List Int)) (i : Nat) (c : List Nat) : (List.range ((toZ c).map V.int).length).filterMap (fun j => some (V.int (ent R i (c.getD j 0)))) = (c.map fun j => ent R i j).map V.int := by
 rw [filterMap_some, List.length_map, toZ_len, List.map_map]
 refine List.ext_getElem? fun j => ?_
 rw [List.getElem?_map, List.getElem?_map]
 by_cases h : j < c.length
 ·rw [List.getElem?_range h, List.getElem?_eq_getElem h]
  show some (V.int (ent R i (c.getD j 0))) = some (V.int (ent R i c[j]))
  rw [List.getD_eq_getElem?_getD, List.getElem?_eq_getElem h]
  rfl
 ·rw [List.getElem?_eq_none (by rw [List.length_range]; exact Om.k47 h), List.getElem?_eq_none (by exact Om.k47 h)]
  rfl
theorem vals_len (R : List (List Int)) (c : List Nat) : ∀ r : List Nat, (valsL R r c).length = r.length * c.length
 | [] => by simp [valsL]
 | i :: r => by
  have := vals_len R c r
  unfold valsL at this ⊢
  rw [List.flatMap_cons, List.length_append, List.length_map, this, List.length_cons, Nat.succ_mul, Nat.add_comm]
theorem zs_nat {l : List Int} (h : ∀ t ∈ l, (0 : Int) <= t) : zs (l.map Int.toNat) = l := by
 unfold zs
 rw [List.map_map]
 refine (List.map_congr_left fun t ht => ?_).trans (List.map_id _)
 exact Int.toNat_of_nonneg (h t ht)
section
variable {P : Program} {w : World} {K : PySem.W.Frag} {mg : Str -> Option Value} {base : Heap}
theorem scThingsIn : FnScope ["square", "rows", "columns", "found", "row"] ["square", "rows", "columns"] (defScope sThingsIn) := ⟨rfl, rfl, rfl, by decide +kernel, rfl, by decide +kernel, by decide +kernel⟩
theorem ok_thingsIn {f : Addr} {fd : FuncData} (F : Fun K "things_in" "things_in" sThingsIn f fd) (T : Blt mg) : FnOk P w K mg base CX0 1 f fd ["square", "rows", "columns"] spThings := by
 refine F.ok scThingsIn (fun vs H Q E h => ?_) (fun cdv A outer s H vs Q E hr h => ?_)
 ·obtain ⟨_, _, _, _, _, _, _, _, rfl, _⟩ := h
  rfl
 ·obtain ⟨g, ra, ca, n, k, R, r, c, rfl, hT, ok, hRl, h6, hra, hca, pr, pc, hk6, q⟩ := h
  refine' ⟨_, pss_cons (ps_set (i := 3) scThingsIn.nd rfl (Or.inl rfl) (pe_lst pa_nil)) (pss_cons (ps_for PassesOwn.never rfl (pi_tup (pv 1)) (pg_name (i := 4) scThingsIn.nd rfl (Or.inr rfl)) (pss_one ?b)) (pss_one (ps_ret ?r))), ?rd⟩
  case b => exact ps_expr (pe_bm PySem.F.plainAttrs_list PySem.F.slot_list_extend PySem.F.type_list_extend mt_extend (pv 3) (pa_cons (pe_lc ["column", "square", "row"] [none, some 0, some 4] rfl rfl (pi_tupK K (pv 2)) (fun _ _ _ _ _ => pg_c 0) (fun _ _ _ _ _ => pts_nil) (fun _ _ _ _ _ => pe_ix (ix_tupK K) (pe_ix (ix_tupK K) (pv 1) (pv 2) (fun _ _ => rfl)) (pv 0) (fun _ _ => rfl))) pa_nil))
  case r => exact pe_callB (call_sortedX w rfl) rfl T.sorted PyProof.Rows.boot_sorted (pa_cons (pe_callTy (call_setGr w K rfl) rfl T.set bt_set (pa_cons (pv 3) pa_nil)) pa_nil)
  case rd =>
   refine ⟨Nat.zero_le _, fun lf hlf => ?_⟩
   have vrg := vals_rg ok hRl pr pc
   have s1 : Same H (upd H lf (.lst [])) := Same.new hlf
   refine ⟨_, rfl, ra, rfl, ⟨_, SqT.of (s1 _ _ hra)⟩, ?_⟩
   refine for_tup (xs := (toZ r).map V.int) (fun i σ H2 => ∃ (v4 : Option V), σ = [some (.ref g), some (.ref ra), some (.ref ca), some (.ref lf), v4] /\ Same H H2 /\ H2 lf = some (.lst ((valsL R (r.take i) c).map V.int)))
    ⟨none, rfl, s1, upd_same⟩ (fun i σ H2 _ zz0 => by obtain ⟨_, _, k2, _⟩ := zz0; exact SqT.of (k2 _ _ hra)) ?_ ?_
   ·rintro i x σ H2 hx ⟨v4, rfl, s2, h2⟩
    obtain ⟨hi, rfl⟩ := toZ_at hx
    have hri := pr.lt _ (List.getElem_mem hi)
    have hr6 : r.length <= 6 := by rw [pr.len]; exact hk6
    have hc6 : c.length <= 6 := by rw [pc.len]; exact hk6
    obtain ⟨xg, pg, a1, a2, a3, a4⟩ := hT.at (k := r[i]) (by exact Om.a1 ‹_› ‹_›)
    refine ⟨_, rfl, .inl ⟨rfl, _, SqL.of h2⟩, _, rfl, ca, rfl, ⟨_, SqT.of (s2 _ _ hca)⟩, fun lc hlc => ?_⟩
    refine comp_pure (fun j => some (V.int (ent R r[i] (c.getD j 0)))) (fun σ => ∃ v, σ = [v, some (.ref g), some (.int ((r[i] : Nat) : Int))]) (wlk_tup (xs := (toZ c).map V.int)) (by rw [List.length_map, toZ_len]; exact small6 (by exact Om.b1 ‹_› rfl)) hlc (fun H' sm => SqT.of (sm _ _ (s2 _ _ hca))) ⟨none, rfl⟩ ?_ ?_
    ·rintro j y σ H' R' hy ⟨v, rfl⟩ sm kk
     obtain ⟨hj, rfl⟩ := toZ_at hy
     have hcj := pc.lt _ (List.getElem_mem hj)
     have sm' := s2.trans sm
     refine ⟨_, rfl, _, rfl, g, _, _, _, rfl, rfl, SqT.of (sm' _ _ a1), a3, _, rfl, pg, _, _, _, rfl, rfl, SqT.of (sm' _ _ a4), int_at (i := c[j]) (by rw [(ok.rowAt (k := r[i]) (by exact Om.a1 ‹_› ‹_›)).len]; exact hcj), ?_⟩
     have e : c.getD j 0 = c[j] := by rw [List.getD_eq_getElem?_getD, List.getElem?_eq_getElem hj]; rfl
     have kk' := kk _ H' ⟨some (.int ((c[j] : Nat) : Int)), rfl⟩ (Same.refl _)
     rw [e] at kk'
     exact kk'
    intro H3 s3 h3
    rw [fm_ent] at h3
    have h23 := s3 _ _ h2
    have hlen : (valsL R (r.take i) c).length <= 36 := by
     rw [vals_len, List.length_take]
     exact Nat.mul_le_mul (show min i r.length <= 6 by exact Om.k46 hi hr6) hc6
    refine ⟨lf, lc, _, _, rfl, rfl, h23, h3, by rw [List.length_map, List.length_map, List.length_map]; exact small6 (by exact Om.k45 hi hc6 hlen), _, rfl, fun b u e => ?_, ?_⟩
    ·rw [upd_ne (ne_of_none e hlf)]
     exact s3 _ _ (s2 _ _ e)
    ·rw [upd_same, vals_take hi, List.map_append]
   ·rintro σ H2 ⟨v4, rfl, s2, h2⟩
    rw [List.length_map, toZ_len, List.take_length] at h2
    have hnn := zs_nat fun t ht => (vrg t ht).1
    have hs6 : ∀ x ∈ (valsL R r c).map Int.toNat, x < 6 := fun x hx => by
     obtain ⟨t, ht, rfl⟩ := List.mem_map.mp hx
     have := vrg t ht
     omega
    have S6 := allS_six hs6
    refine ⟨_, rfl, lf, (valsL R r c).map Int.toNat, rfl, by rw [hnn]; exact SqL.of h2, hs6, fun ls hls => ?_⟩
    refine ⟨ls, _, rfl, upd_same, S6.small, fun l hl => ?_⟩
    have es : zs (allS ((valsL R r c).map Int.toNat)) = tsL n R r c := sorted_uniq ((List.perm_ext_iff_of_nodup ?_ tsL_nd).mpr fun t => Iff.trans ?_ (tsL_mem ok hRl pr pc).symm) ?_ tsL_le
    ·rw [es]
     exact q l _ (fun b o e => Same.new hl _ _ (Same.new hls _ _ (s2 _ _ e))) upd_same
    ·unfold zs
     exact nodup_map_on (S6.rise.imp fun h => Nat.ne_of_lt h) fun a _ b _ e => by exact Om.e1 ‹_›
    ·unfold zs
     rw [List.mem_map]
     constructor
     ·rintro ⟨x, hx, rfl⟩
      obtain ⟨t, ht, rfl⟩ := List.mem_map.mp (mem_allS.mp hx)
      rw [Int.toNat_of_nonneg (vrg t ht).1]
      exact ht
     ·intro ht
      exact ⟨t.toNat, mem_allS.mpr (List.mem_map.mpr ⟨t, ht, rfl⟩), Int.toNat_of_nonneg (vrg t ht).1⟩
    ·unfold zs
     rw [List.pairwise_map]
     exact S6.rise.imp fun h => by exact Om.k44 h
theorem scWith : FnScope ["begun", "row", "column", "entry", "changed"] ["begun", "row", "column", "entry"] (defScope sWith) := ⟨rfl, rfl, rfl, by decide +kernel, rfl, by decide +kernel, by decide +kernel⟩
theorem ok_with {f : Addr} {fd : FuncData} (F : Fun K "with_entry" "with_entry" sWith f fd) (T : Blt mg) : FnOk P w K mg base CX0 1 f fd ["begun", "row", "column", "entry"] spWith := by
 refine F.ok scWith (fun vs H Q E h => ?_) (fun cdv A outer s H vs Q E hr h => ?_)
 ·obtain ⟨a, n, B, r, c, v, rfl, _⟩ := h
  rfl
 ·obtain ⟨a, n, B, r, c, v, rfl, ⟨ps, ha, hP⟩, hBl, hrl0, hn, hrn, hcn, k⟩ := h
  refine ⟨_, pss_cons (ps_set (i := 4) scWith.nd rfl (Or.inl rfl) (pe_op (op_sumT K) (pe_op (op_sumT K) (pe_slice sl_tup (pe_ix ix_tup (pv 0) (pv 1) (fun _ _ => rfl)) po_none (po_some (pv 2))) (pe_tup (pa_cons (pv 3) pa_nil)))
    (pe_slice sl_tup (pe_ix ix_tup (pv 0) (pv 1) (fun _ _ => rfl)) (po_some (pe_op op_add (pv 2) pe_int)) po_none)))
   (pss_one (ps_ret (pe_op (op_sumT K) (pe_op (op_sumT K) (pe_slice sl_tup (pv 0) po_none (po_some (pv 1))) (pe_tup (pa_cons (pv 4) pa_nil))) (pe_slice sl_tup (pv 0) (po_some (pe_op op_add (pv 1) pe_int)) po_none)))), ?_⟩
  have hxl : (ps.map V.ref).length = n := by rw [List.length_map, hP.length, hBl]
  have hrB : r < B.length := by exact Om.a1 ‹_› ‹_›
  obtain ⟨pr, hpr, hrow⟩ := Paired.getR hP (List.getElem?_eq_getElem hrB)
  rw [<- gD (d := []) hrB] at hrow
  have hpr' : (ps.map V.ref)[r]? = some (.ref pr) := by rw [List.getElem?_map, hpr]; rfl
  have hrl : ((B.getD r []).map V.int).length = n := by rw [List.length_map]; exact hrl0
  have hc1 : ((c : Int) + 1) = ((c + 1 : Nat) : Int) := rfl
  have hr1 : ((r : Int) + 1) = ((r + 1 : Nat) : Int) := rfl
  have hset : ((B.getD r []).map V.int).take c ++ [V.int v] ++ ((B.getD r []).map V.int).drop (c + 1) = ((B.getD r []).take c ++ v :: (B.getD r []).drop (c + 1)).map V.int := by
   rw [List.map_append, List.map_cons, List.map_take, List.map_drop, List.append_assoc]
   rfl
  have hdef : setI B r c v = B.take r ++ ((B.getD r []).take c ++ v :: (B.getD r []).drop (c + 1)) :: B.drop (r + 1) := rfl
  rw [hdef] at k
  generalize (B.getD r []).take c ++ v :: (B.getD r []).drop (c + 1) = row2 at hset k
  generalize (B.getD r []).map V.int = rv at hrow hrl hset
  refine ⟨_, rfl, _, rfl, a, _, _, _, rfl, rfl, SqT.of ha, atI_of hpr', _, rfl, _, rfl, pr, _, rfl, SqT.of hrow, (by rw [hrl]; exact not_whole_to hcn), fun p1 hp1 => ?_⟩
  rw [cut_to _ (by rw [hrl]; exact Om.d1 ‹_›)]
  have sm1 : Same H (upd H p1 (.tup (rv.take c))) := Same.new hp1
  refine ⟨_, rfl, (show 1 <= sizeLine from small6 (by decide)), fun p2 hp2 => ?_⟩
  have sm2 : Same (upd H p1 (.tup (rv.take c))) (upd (upd H p1 (.tup (rv.take c))) p2 (.tup [.int v])) := Same.new hp2
  refine ⟨p1, p2, _, _, rfl, rfl, sm2 _ _ upd_same, upd_same, ?_, fun p3 H3 sm3 h3 => ?_⟩
  ·rw [List.length_take, hrl]
   show min c n + 1 <= sizeLine
   exact small6 (by exact Om.k43 hBl hrl0 hn hrn hcn hxl hrl)
  have smA : Same H H3 := (sm1.trans sm2).trans sm3
  refine ⟨_, rfl, _, rfl, a, _, _, _, rfl, rfl, SqT.of (smA _ _ ha), atI_of hpr', _, rfl, _, _, rfl, rfl, _, rfl, pr, _, rfl, SqT.of (smA _ _ hrow), (by rw [hc1, hrl]; exact not_whole_from hcn), fun p4 hp4 => ?_⟩
  rw [hc1, cut_from _ (by rw [hrl]; exact Om.f1 ‹_›)]
  have sm4 : Same H3 (upd H3 p4 (.tup (rv.drop (c + 1)))) := Same.new hp4
  refine ⟨p3, p4, _, _, rfl, rfl, sm4 _ _ h3, upd_same, ?_, fun p5 H5 sm5 h5 => ?_⟩
  ·rw [List.length_append, List.length_take, List.length_drop, hrl]
   show min c n + 1 + (n - (c + 1)) <= sizeLine
   exact small6 (by exact Om.k41 hBl hrl0 hn hcn hxl hrl)
  have h5' : H5 p5 = some (.tup (row2.map V.int)) := by rw [h5, hset]
  have smB : Same H H5 := (smA.trans sm4).trans sm5
  refine ⟨_, rfl, _, rfl, _, rfl, a, _, rfl, SqT.of (smB _ _ ha), (by rw [hxl]; exact not_whole_to hrn), fun p6 hp6 => ?_⟩
  rw [cut_to _ (by rw [hxl]; exact Om.d1 ‹_›)]
  have sm6 : Same H5 (upd H5 p6 (.tup ((ps.map V.ref).take r))) := Same.new hp6
  refine ⟨_, rfl, (show 1 <= sizeLine from small6 (by decide)), fun p7 hp7 => ?_⟩
  have sm7 : Same (upd H5 p6 (.tup ((ps.map V.ref).take r))) (upd (upd H5 p6 (.tup ((ps.map V.ref).take r))) p7 (.tup [.ref p5])) := Same.new hp7
  refine ⟨p6, p7, _, _, rfl, rfl, sm7 _ _ upd_same, upd_same, ?_, fun p8 H8 sm8 h8 => ?_⟩
  ·rw [List.length_take, hxl]
   show min r n + 1 <= sizeLine
   exact small6 (by exact Om.k42 hBl hrl0 hn hrn hcn hxl hrl)
  have smC : Same H5 H8 := (sm6.trans sm7).trans sm8
  refine ⟨_, rfl, _, rfl, _, _, rfl, rfl, _, rfl, a, _, rfl, SqT.of (smC _ _ (smB _ _ ha)), (by rw [hr1, hxl]; exact not_whole_from hrn), fun p9 hp9 => ?_⟩
  rw [hr1, cut_from _ (by rw [hxl]; exact Om.f1 ‹_›)]
  have sm9 : Same H8 (upd H8 p9 (.tup ((ps.map V.ref).drop (r + 1)))) := Same.new hp9
  refine ⟨p8, p9, _, _, rfl, rfl, sm9 _ _ h8, upd_same, ?_, fun p10 H10 sm10 h10 => ?_⟩
  ·rw [List.length_append, List.length_take, List.length_drop, hxl]
   show min r n + 1 + (n - (r + 1)) <= sizeLine
   exact small6 (by exact Om.k41 hBl hrl0 hn hrn hxl hrl)
  have smD : Same H5 H10 := (smC.trans sm9).trans sm10
  refine k p10 H10 (smB.trans smD) ⟨ps.take r ++ p5 :: ps.drop (r + 1), ?_, ?_⟩
  ·rw [h10, List.map_append, List.map_cons, List.map_take, List.map_drop, List.append_assoc]
   rfl
  ·exact Paired.append (Paired.mapP (Paired.take33 r hP) fun _ _ q => (smB.trans smD) _ _ q) (.cons (smD _ _ h5') (Paired.mapP (Paired.drop33 (r + 1) hP) fun _ _ q => (smB.trans smD) _ _ q))
end
end My
namespace My
open PySem L2
theorem rng_eq (n : Nat) : rng n = (rngI n).map V.int := by
 unfold rng rngI
 rw [List.map_map]
 rfl
theorem none_all (l : List Nat) : l.filterMap (fun _ : Nat => (none : Option V)) = [] := by
 induction l with
 | nil => rfl
 | cons _ _ ih => exact ih
theorem col_perm {n : Nat} {R : List (List Int)} (ok : OkRows n R) (hl : R.length = n) {c : Nat} (hc : c < n) : (colL R c).Perm (rngI n) := by
 refine row_perm (by unfold colL; rw [List.length_map, hl]) (ok.col c hc) fun x hx => ?_
 obtain ⟨r, hr, rfl⟩ := List.mem_map.mp hx
 obtain ⟨h1, _, h3⟩ := ok.row r hr
 rw [getD_of (by exact Om.a1 ‹_› ‹_›)]
 exact h3 _ (List.getElem_mem _)
theorem fm_some {α β : Type} (g : α -> β) (l : List α) : l.filterMap (fun i => some (g i)) = l.map g := by
 induction l with
 | nil => rfl
 | cons a l ih => rw [List.filterMap_cons, List.map_cons, ih]
inductive SpWholeI (vs : List V) (H : Hp) (Q : VK) : Prop where
 | mk (z : Int) (_ : vs = [.int z]) (_ : Q (.bl true) H) : SpWholeI vs H Q
noncomputable def spWhole : Sp := fun vs H Q _ => SpWholeI vs H Q
inductive SpIsSquareI (vs : List V) (H : Hp) (Q : VK) : Prop where
 | mk (t : Addr) (n : Nat) (R : List (List Int)) (_ : vs = [.ref t, .int (n : Int)]) (_ : TG H t R) (_ : OkRows n R) (_ : R.length = n) (_ : n <= 8) (_ : ∀ H', Same H H' -> Q (.bl true) H') : SpIsSquareI vs H Q
noncomputable def spIsSquare : Sp := fun vs H Q _ => SpIsSquareI vs H Q
section
variable {P : Program} {w : World} {K : PySem.W.Frag} {mg : Str -> Option Value} {base : Heap}
theorem bt_range : bootBuiltins "range" = some (Value.type "range") := by decide +kernel
theorem scWhole : FnScope ["_law_found"] ["_law_found"] (defScope sWhole) := ⟨rfl, rfl, rfl, by decide +kernel, rfl, by decide +kernel, by decide +kernel⟩
theorem ok_whole {f : Addr} {fd : FuncData} (F : Fun K "_law_whole" "_law_whole" sWhole f fd) (T : Blt mg) : FnOk P w K mg base CX0 1 f fd ["_law_found"] spWhole := by
 refine F.ok scWhole (fun vs H Q E h => ?_) (fun cdv A outer s H vs Q E hr h => ?_)
 ·obtain ⟨_, rfl, _⟩ := h
  rfl
 ·obtain ⟨z, rfl, q⟩ := h
  refine ⟨_, pss_one (ps_ret (pe_and (pe_callB (call_isinst K) rfl T.isin bt_isin (pa_cons (pv 0) (pa_cons (pe_bltn (v := .ty "int") rfl T.int bt_int rfl) pa_nil))) (pe_one (pe_not (pe_callB (call_isinst K) rfl T.isin bt_isin (pa_cons (pv 0) (pa_cons (pe_bltn (v := .ty "bool") rfl T.bool bt_bool rfl) pa_nil))))))), ?_⟩
  refine ⟨_, rfl, _, "int", _, true, rfl, .int z, rfl, _, rfl, iteT ?_⟩
  exact ⟨_, rfl, _, "bool", _, false, rfl, .int z, rfl, _, rfl, q⟩
theorem scIsSquare : FnScope ["_law_found", "_law_size", "_law_row"] ["_law_found", "_law_size"] (defScope sIsSquare) := ⟨rfl, rfl, rfl, by decide +kernel, rfl, by decide +kernel, by decide +kernel⟩
theorem ok_isSquare {f fW : Addr} {fd dW : FuncData} (F : Fun K "_law_is_square" "_law_is_square" sIsSquare f fd) (T : Blt mg) (DW : Dfn K mg "_law_whole" sWhole ["_law_found"] fW dW) : FnOk P w K mg base CX0 2 f fd ["_law_found", "_law_size"] spIsSquare := by
 have GW : FnOk P w K mg base CX0 1 fW dW ["_law_found"] spWhole := ok_whole DW.F T
 refine F.ok scIsSquare (fun vs H Q E h => ?_) (fun cdv A outer s H vs Q E hr h => ?_)
 ·obtain ⟨_, _, _, rfl, _⟩ := h
  rfl
 ·obtain ⟨t, n, R, rfl, hT, ok, hRl, h8, q⟩ := h
  have hu : ((A.deeper (PyProof.Rows.envOfC "_law_is_square" (defScope sIsSquare) s.heap.objs.size f cdv))).units < cLine := by have := hr.un; omega
  refine' ⟨_, pss_cons (ps_if (PW.pt (pw_or ?c0 (pw_or1 ?c1))) (pss_one (ps_ret pe_bl)) pss_nil) (pss_cons (ps_for PassesOwn.never rfl (pi_tup (pv 0)) (pg_name (i := 2) scIsSquare.nd rfl (Or.inl rfl)) (pss_cons (ps_if (PW.pt (pw_or ?d0 (pw_or1 ?d1))) (pss_one (ps_ret pe_bl)) pss_nil) (pss_one (ps_if ?d2 (pss_one (ps_ret pe_bl)) pss_nil)))) (pss_one (ps_ret ?r))), ?rd⟩
  case c0 => exact pt_not (pt_val (pe_callB (call_isinst K) rfl T.isin bt_isin (pa_cons (pv 0) (pa_cons (pe_bltn (v := .ty "tuple") rfl T.tuple bt_tuple rfl) pa_nil))))
  case c1 => exact pt_cmpR op_ne (pe_callB (call_lenK K) rfl T.len PySem.boot_len (pa_cons (pv 0) pa_nil)) (pv 1) (nomark _)
  case d0 => exact pt_not (pt_val (pe_callB (call_isinst K) rfl T.isin bt_isin (pa_cons (pv 2) (pa_cons (pe_bltn (v := .ty "tuple") rfl T.tuple bt_tuple rfl) pa_nil))))
  case d1 => exact pt_cmpR (op_neL hu K) (pe_lc ["_law_thing"] [none] rfl rfl (pi_tupK K (pv 2)) (fun _ _ _ _ _ => pg_c 0) (fun _ _ _ _ _ => pts_one (pt_not (pt_val (pe_call GW hr rfl DW.m DW.F.kp DW.b .nil pass0 (pa_cons (pv 0) pa_nil))))) (fun _ _ _ _ _ => pv 0)) (pe_lst pa_nil) (nomark _)
  case d2 => exact pt_cmpR (op_neL hu K) (pe_callB (call_sortedT K) rfl T.sorted PyProof.Rows.boot_sorted (pa_cons (pv 2) pa_nil)) (pe_callTy (call_listR rfl) rfl T.list bt_list (pa_cons (pe_callTy call_rangeV rfl T.range bt_range (pa_cons (pv 1) pa_nil)) pa_nil)) (nomark _)
  case r => exact pe_cmpR (op_eqL hu K) (pe_lcC "_law_c" ["_law_c", "_law_found", "_law_size"] [none, some 0, some 1] rfl rfl (pi_range1 rfl T.range (pa_cons (pv 1) pa_nil)) (fun _ _ _ _ _ => pg_own 0) (fun _ _ _ _ _ => pts_one (pt_cmpR (op_neL hu K) (pe_callB (call_sorted K) rfl T.sorted PyProof.Rows.boot_sorted (pa_cons (pe_lc ["_law_row", "_law_c"] [none, some 0] rfl rfl (pi_tupK K (pv 1)) (fun _ _ _ _ _ => pg_c 0) (fun _ _ _ _ _ => pts_nil) (fun _ _ _ _ _ => pe_ix (ix_tupK K) (pv 0) (pv 1) (fun _ _ => rfl))) pa_nil)) (pe_callTy (call_listR rfl) rfl T.list bt_list (pa_cons (pe_callTy call_rangeV rfl T.range bt_range (pa_cons (pv 2) pa_nil)) pa_nil)) (nomark _))) (fun _ _ _ _ _ => pv 0)) (pe_lst pa_nil) (nomark _)
  case rd =>
   obtain ⟨ps, hps, hPs⟩ := id hT
   have hpl : (ps.map V.ref).length = n := by rw [List.length_map, hPs.length, hRl]
   have eb : eqVs ((rngI n).map V.int) (rng n) = true := by rw [rng_eq]; exact eqVs_refl (map_ints_flat _)
   refine ⟨_, rfl, _, "tuple", _, true, rfl, .tup hps, rfl, _, rfl, iteF ?_⟩
   refine ⟨_, rfl, t, _, rfl, .inr (SqT.of hps), _, rfl, rfl, _, rfl, ?_⟩
   rw [hpl, decide_eq_true rfl]
   refine iteF ⟨_, rfl, t, rfl, ⟨_, SqT.of hps⟩, ?_⟩
   refine for_tup (xs := ps.map V.ref) (fun i σ H1 => ∃ v2 : Option V, σ = [some (.ref t), some (.int (n : Int)), v2] /\ Same H H1) ⟨none, rfl, Same.refl _⟩ (fun i σ H1 _ zz0 => by obtain ⟨_, _, s1⟩ := zz0; exact SqT.of (s1 _ _ hps)) ?_ ?_
   ·rintro i x σ H1 hx ⟨v2, rfl, s1⟩
    rw [List.getElem?_map] at hx
    cases hpi : ps[i]? with
    | none => rw [hpi] at hx; cases hx
    | some p =>
     rw [hpi] at hx
     cases hx
     obtain ⟨r, hri, hp⟩ := Paired.getL hPs hpi
     obtain ⟨tl, tn, tg⟩ := ok.row r (List.mem_of_getElem? hri)
     have hp1 := s1 _ _ hp
     refine ⟨_, rfl, _, "tuple", _, true, rfl, .tup hp1, rfl, _, rfl, iteF ?_⟩
     refine ⟨_, rfl, p, rfl, ⟨_, SqT.of hp1⟩, fun la hla => comp_pure (fun _ => none) (fun σ => ∃ v, σ = [v]) (wlk_tup (xs := r.map V.int)) (by rw [List.length_map, tl]; exact small6 (by exact Om.b1 ‹_› rfl)) hla (fun H' sm => SqT.of (sm _ _ hp1)) ⟨none, rfl⟩ ?_ ?_⟩
     ·rintro j x σ H' R' hj ⟨v, rfl⟩ sm' kk
      obtain ⟨z, _, rfl⟩ := List.mem_map.mp (List.mem_of_getElem? hj)
      exact ⟨_, rfl, z, rfl, _, rfl, iteF (kk _ _ ⟨_, rfl⟩ (Same.refl _))⟩
     ·intro H2 s2 hla2
      rw [none_all] at hla2
      refine ⟨Nat.zero_le _, fun le hle => ⟨la, le, [], [], rfl, rfl, SqL.of ((Same.new hle) _ _ hla2), SqL.of upd_same, .inl ⟨rfl, rfl⟩, _, rfl, iteF ?_⟩⟩
      have s3 : Same H2 (upd H2 le (.lst [])) := Same.new hle
      have s13 := s2.trans s3
      generalize upd H2 le (.lst []) = H3 at s13 ⊢
      refine ⟨_, rfl, p, r, rfl, SqT.of (s13 _ _ hp1), by rw [tl]; exact Om.k40 hRl h8 hpl tl, fun ls ns' hls pm pw => ?_⟩
      have es : ns' = rngI n := sorted_uniq (pm.trans (row_perm tl tn tg)) pw (rngI_sorted n)
      subst es
      refine ⟨_, rfl, n, rfl, fun lr hlr => ⟨lr, n, rfl, upd_same, by exact Om.b1 ‹_› rfl, fun lx hlx => ?_⟩⟩
      have s4 : Same H3 (upd H3 ls (.lst ((rngI n).map V.int))) := Same.new hls
      have s5 : Same (upd H3 ls (.lst ((rngI n).map V.int))) (upd (upd H3 ls (.lst ((rngI n).map V.int))) lr (.rng 0 (n : Int))) := Same.new hlr
      have s6 : Same (upd (upd H3 ls (.lst ((rngI n).map V.int))) lr (.rng 0 (n : Int))) (upd (upd (upd H3 ls (.lst ((rngI n).map V.int))) lr (.rng 0 (n : Int))) lx (.lst (rng n))) := Same.new hlx
      refine ⟨ls, lx, (rngI n).map V.int, rng n, rfl, rfl, SqL.of ((s5.trans s6) _ _ upd_same), SqL.of upd_same, .inl ⟨map_ints_flat _, rng_flat n⟩, _, rfl, ?_⟩
      rw [eb]
      exact iteF ⟨_, rfl, s1.trans (s13.trans (s4.trans (s5.trans s6)))⟩
   ·rintro σ H1 ⟨v2, rfl, s1⟩
    refine ⟨_, rfl, (n : Int), rfl, by exact Om.c2, by exact Om.c1 ‹_› rfl, fun lc hlc => ?_⟩
    rw [Int.toNat_natCast]
    refine comp_pure (fun _ => none) (fun σ => ∃ v, σ = [v, some (.ref t), some (.int (n : Int))]) (wlk_range (n := n)) (by rw [rng_len]; exact small6 (by exact Om.b1 ‹_› rfl)) hlc (fun H' sm => trivial) ⟨none, rfl⟩ ?_ ?_
    ·rintro j x σ H2 R' hj ⟨v, rfl⟩ s2 kk
     obtain ⟨hjn, rfl⟩ := rng_get hj
     have hps2 := s2 _ _ (s1 _ _ hps)
     refine ⟨_, rfl, t, rfl, ⟨_, SqT.of hps2⟩, fun la hla => comp_pure (fun i => some (.int ((R.getD i []).getD j 0))) (fun σ => ∃ v, σ = [v, some (.int (j : Int))]) (wlk_tup (xs := ps.map V.ref)) (by rw [hpl]; exact small6 (by exact Om.b1 ‹_› rfl)) hla (fun H' sm => SqT.of (sm _ _ hps2)) ⟨none, rfl⟩ ?_ ?_⟩
     ·rintro i x σ H3 R'' hi ⟨v, rfl⟩ s3 kk2
      rw [List.getElem?_map] at hi
      cases hpi : ps[i]? with
      | none => rw [hpi] at hi; cases hi
      | some p =>
       rw [hpi] at hi
       cases hi
       obtain ⟨r, hri, hp⟩ := Paired.getL hPs hpi
       obtain ⟨tl, _, _⟩ := ok.row r (List.mem_of_getElem? hri)
       have er : R.getD i [] = r := by rw [List.getD_eq_getElem?_getD, hri]; rfl
       refine ⟨_, rfl, _, rfl, p, _, _, _, rfl, rfl, SqT.of (s3 _ _ (s2 _ _ (s1 _ _ hp))), int_at (i := j) (by rw [tl]; exact hjn), ?_⟩
       have := kk2 [some (.ref p), some (.int (j : Int))] H3 ⟨_, rfl⟩ (Same.refl _)
       simp only [er] at this
       exact this
     ·intro H3 s3 hla3
      have ec : (List.range (ps.map V.ref).length).filterMap (fun i : Nat => some (V.int ((R.getD i []).getD j 0))) = (colL R j).map V.int := by
       rw [fm_some, hpl]
       unfold colL
       rw [List.map_map]
       refine List.ext_getElem (by rw [List.length_map, List.length_range, List.length_map, hRl]) fun i e1 e2 => ?_
       rw [List.getElem_map, List.getElem_range, List.getElem_map]
       have hi : i < R.length := by rw [List.length_map] at e2; exact e2
       show V.int ((R.getD i []).getD j 0) = V.int (R[i].getD j 0)
       rw [List.getD_eq_getElem?_getD (l := R), List.getElem?_eq_getElem hi]
       rfl
      rw [ec] at hla3
      have clen : (colL R j).length = n := by unfold colL; rw [List.length_map, hRl]
      refine ⟨la, colL R j, rfl, SqL.of hla3, by rw [clen]; exact Om.k40 hRl h8 hpl clen, fun ls ns' hls pm pw => ?_⟩
      have es : ns' = rngI n := sorted_uniq (pm.trans (col_perm ok hRl hjn)) pw (rngI_sorted n)
      subst es
      refine ⟨_, rfl, n, rfl, fun lr hlr => ⟨lr, n, rfl, upd_same, by exact Om.b1 ‹_› rfl, fun lx hlx => ?_⟩⟩
      have s4 : Same H3 (upd H3 ls (.lst ((rngI n).map V.int))) := Same.new hls
      have s5 : Same (upd H3 ls (.lst ((rngI n).map V.int))) (upd (upd H3 ls (.lst ((rngI n).map V.int))) lr (.rng 0 (n : Int))) := Same.new hlr
      have s6 : Same (upd (upd H3 ls (.lst ((rngI n).map V.int))) lr (.rng 0 (n : Int))) (upd (upd (upd H3 ls (.lst ((rngI n).map V.int))) lr (.rng 0 (n : Int))) lx (.lst (rng n))) := Same.new hlx
      refine ⟨ls, lx, (rngI n).map V.int, rng n, rfl, rfl, SqL.of ((s5.trans s6) _ _ upd_same), SqL.of upd_same, .inl ⟨map_ints_flat _, rng_flat n⟩, _, rfl, ?_⟩
      rw [eb]
      exact iteF (kk _ _ ⟨_, rfl⟩ (s3.trans (s4.trans (s5.trans s6))))
    ·intro H2 s2 hlc2
     rw [none_all] at hlc2
     refine ⟨Nat.zero_le _, fun le hle => ⟨lc, le, [], [], rfl, rfl, SqL.of ((Same.new hle) _ _ hlc2), SqL.of upd_same, .inl ⟨rfl, rfl⟩, ?_⟩⟩
     exact q _ (s1.trans (s2.trans (Same.new hle)))
end
end My
namespace My
open PySem L2
inductive SpMadeI (K : PySem.W.Frag) (vs : List V) (H : Hp) (Q : VK) : Prop where
 | mk (a : Addr) (ns : List Int) (_ : vs = [.ref a]) (_ : SqL K H a (ns.map V.int)) (_ : ∀ (t : Addr) (n : Nat) (R : List (List Int)) (H' : Hp), Same H H' -> TG H' t R -> OkRows n R -> R.length = n -> n <= 6 -> Q (.ref t) H') : SpMadeI K vs H Q
noncomputable def spMade (K : PySem.W.Frag) : Sp := fun vs H Q _ => SpMadeI K vs H Q
section
variable {P : Program} {w : World} {K : PySem.W.Frag} {mg : Str -> Option Value} {base : Heap}
theorem scMade : FnScope ["_law_script", "_law_head", "_law_square_here", "_law_cell", "_law_one", "_law_other"] ["_law_script"] (defScope sMade) := ⟨rfl, rfl, rfl, by decide +kernel, rfl, by decide +kernel, by decide +kernel⟩
theorem ok_made {f fC fD fO fS fT fX fR : Addr} {fd dC dD dO dS dT dX dR : FuncData} (F : Fun K "_law_made" "_law_made" sMade f fd) (T : Blt mg) (DC : Dfn K mg "_law_cell_at" sCell ["_law_script", "_law_k"] fC dC) (DD : Dfn K mg "_law_digits" sDigits ["_law_cell", "_law_many", "_law_most"] fD dD) (DO : Dfn K mg "_law_row_on" sRowOn ["_law_above", "_law_row", "_law_size", "_law_turns"] fO dO) (DS : Dfn K mg "_law_square" sSquare ["_law_cell", "_law_size"] fS dS) (DT : Dfn K mg "_law_table" sTable ["_law_script"] fT dT) (DX : Dfn K mg "_law_exchanged" sExchanged ["_law_square_here", "_law_one", "_law_other", "_law_column"] fX dX) (DR : Dfn K mg "_law_ring" sRing ["_law_square_here", "_law_one", "_law_other", "_law_column"] fR dR) : FnOk P w K mg base CX0 11 f fd ["_law_script"] (spMade K) := by
 have GC : FnOk P w K mg base CX0 10 fC dC ["_law_script", "_law_k"] (spCell K) := (ok_cell DC.F T).mono (by decide)
 have GS : FnOk P w K mg base CX0 10 fS dS ["_law_cell", "_law_size"] spSquare := ok_square DS.F T DD DO
 have GT : FnOk P w K mg base CX0 10 fT dT ["_law_script"] (spTable K) := (ok_table DT.F T DC).mono (by decide)
 have GX : FnOk P w K mg base CX0 10 fX dX ["_law_square_here", "_law_one", "_law_other", "_law_column"] spEx := (ok_exchanged DX.F T DR).mono (by decide)
 refine F.ok scMade (fun vs H Q E h => ?_) (fun cdv A outer s H vs Q E hr h => ?_)
 ·obtain ⟨_, _, rfl, _⟩ := h
  rfl
 ·obtain ⟨a, ns, rfl, hS, k⟩ := h
  refine' ⟨_, pss_cons ?s0 (pss_cons (ps_if ?c (pss_one ?s1) pss_nil) (pss_cons ?d0 (pss_cons (ps_for PassesOwn.never rfl ?i (pg_name (i := 3) scMade.nd rfl (Or.inl rfl)) (pss_cons ?b0 (pss_cons ?b1 (pss_one ?b2)))) (pss_one (ps_ret (pv 2)))))), ?rd⟩
  case s0 => exact ps_set (i := 1) scMade.nd rfl (Or.inl rfl) (pe_call GC hr rfl DC.m DC.F.kp DC.b .nil pass0 (pa_cons (pv 0) (pa_cons pe_int pa_nil)))
  case s1 => exact ps_ret (pe_call GS hr rfl DS.m DS.F.kp DS.b .nil pass0 (pa_cons (pe_call GC hr rfl DC.m DC.F.kp DC.b .nil pass0 (pa_cons (pv 0) (pa_cons pe_int pa_nil))) (pa_cons (pe_op op_add pe_int (pe_op op_mod (pv 1) pe_int)) pa_nil)))
  case c => exact pt_cmpR op_eq (pe_op op_mod (pe_op op_fdiv (pv 1) pe_int) pe_int) pe_int (nomark _)
  case d0 => exact ps_set (i := 2) scMade.nd rfl (Or.inl rfl) (pe_call GT hr rfl DT.m DT.F.kp DT.b .nil pass0 (pa_cons (pv 0) pa_nil))
  case i => exact pi_list (pe_slice sl_list (pv 0) (po_some pe_int) (po_some pe_int))
  case b0 => exact ps_set (i := 4) scMade.nd rfl (Or.inl rfl) (pe_op op_mod (pv 3) (pe_callB (call_lenK K) rfl T.len PySem.boot_len (pa_cons (pv 2) pa_nil)))
  case b1 => exact ps_set (i := 5) scMade.nd rfl (Or.inl rfl) (pe_op op_mod (pe_op op_add (pe_op op_add (pv 4) pe_int) (pe_op op_mod (pe_op op_fdiv (pv 3) pe_int) (pe_op op_sub (pe_callB (call_lenK K) rfl T.len PySem.boot_len (pa_cons (pv 2) pa_nil)) pe_int))) (pe_callB (call_lenK K) rfl T.len PySem.boot_len (pa_cons (pv 2) pa_nil)))
  case b2 => exact ps_set (i := 2) scMade.nd rfl (Or.inl rfl) (pe_call GX hr rfl DX.m DX.F.kp DX.b .nil pass0 (pa_cons (pv 2) (pa_cons (pv 4) (pa_cons (pv 5) (pa_cons (pe_op op_mod (pe_op op_fdiv (pv 3) pe_int) (pe_callB (call_lenK K) rfl T.len PySem.boot_len (pa_cons (pv 2) pa_nil))) pa_nil)))))
  case rd =>
   refine ⟨_, rfl, a, ns, 0, rfl, hS, fun z0 => ?_⟩
   refine ⟨_, rfl, _, _, rfl, rfl, ⟨by decide, by decide⟩, _, _, rfl, rfl, (by show (0 : Int) < 4; decide), rfl, _, rfl, ite2 (fun _ => ?_) (fun _ => ?_)⟩
   ·refine ⟨_, rfl, a, ns, 1, rfl, hS, fun z1 => ?_⟩
    refine ⟨_, rfl, _, _, rfl, rfl, (by show (0 : Int) < 6; decide), _, _, rfl, rfl, ?_⟩
    obtain ⟨n, hz, h1, h6⟩ : ∃ n : Nat, 1 + z0 % 6 = (n : Int) /\ 1 <= n /\ n <= 6 := ⟨(1 + z0 % 6).toNat, by exact Om.k39 , by exact Om.k38 , by exact Om.k37 ⟩
    exact ⟨z1, n, by show [V.int z1, V.int (1 + z0 % 6)] = _; rw [hz], by assumption, by exact Om.b1 ‹_› rfl, fun g H1 R s1 G1 ok hRl => k _ _ _ _ s1 (GridT.tg G1) ok hRl h6⟩
   ·refine ⟨_, rfl, a, ns, rfl, hS, fun g n R H2 sH2 hT ok hRl h2 h6 => ?_⟩
    refine ⟨_, rfl, 2, rfl, 8, rfl, a, _, rfl, sH2.seq hS, fun l2 hl2 => ?_⟩
    have hci : ∀ x ∈ cutV (ns.map V.int) (some 2) (some 8), ∃ z : Int, x = .int z := fun x hx => by
     obtain ⟨z, _, e⟩ := List.mem_map.mp (cut_mem hx)
     exact ⟨z, e.symm⟩
    generalize cutV (ns.map V.int) (some 2) (some 8) = xs at hci hl2 ⊢
    have s3 : Same H2 (upd H2 l2 (.lst xs)) := Same.new hl2
    have hl3 : (upd H2 l2 (.lst xs)) l2 = some (.lst xs) := upd_same
    generalize upd H2 l2 (.lst xs) = H3 at s3 hl3 ⊢
    refine ⟨l2, rfl, ⟨_, SqL.of hl3⟩, for_list (xs := xs) (fun i σ H5 => ∃ (v3 v4 v5 : Option V) (g : Addr) (R : List (List Int)), σ = [some (.ref a), some (.int z0), some (.ref g), v3, v4, v5] /\ Same H3 H5 /\ TG H5 g R /\ OkRows n R /\ R.length = n) ⟨none, none, none, g, R, rfl, Same.refl _, hT.same s3, ok, hRl⟩ (fun i σ H5 _ zz0 => by obtain ⟨_, _, _, _, _, _, s5, _⟩ := zz0; exact SqL.of (s5 _ _ hl3)) ?stp ?fin⟩
    case fin =>
     rintro σ H5 ⟨v3, v4, v5, g, R, rfl, s5, hT, ok, hRl⟩
     exact ⟨_, rfl, k g n R H5 (sH2.trans (s3.trans s5)) hT ok hRl h6⟩
    case stp =>
     clear hT ok hRl
     rintro i x σ H5 hx ⟨v3, v4, v5, g, R, rfl, s5, hT, ok, hRl⟩
     obtain ⟨z, rfl⟩ := hci x (List.mem_of_getElem? hx)
     obtain ⟨gs, hg, hG⟩ := id hT
     have hgl : (gs.map V.ref).length = n := by rw [List.length_map, hG.length, hRl]
     obtain ⟨o1, e1, h1⟩ : ∃ o1 : Nat, z % (n : Int) = (o1 : Int) /\ o1 < n := ⟨(z % (n : Int)).toNat, by have := Int.emod_nonneg z (show (n : Int) ≠ 0 by exact Om.k25 h2 h6 hRl hgl); exact Om.z1 ‹_›, by have := Int.emod_lt_of_pos z (show (0 : Int) < n by exact Om.k26 h2 h6 hRl hgl); have := Int.emod_nonneg z (show (n : Int) ≠ 0 by exact Om.k25 h2 h6 hRl hgl); omega⟩
     obtain ⟨m, em, hm⟩ : ∃ m : Nat, z / 7 % ((n : Int) - 1) = (m : Int) /\ m + 1 < n := ⟨(z / 7 % ((n : Int) - 1)).toNat, by have := Int.emod_nonneg (z / 7) (show (n : Int) - 1 ≠ 0 by exact Om.k35 h2 h6 hRl hgl); exact Om.z1 ‹_›, by have := Int.emod_lt_of_pos (z / 7) (show (0 : Int) < (n : Int) - 1 by exact Om.k36 h2 h6 hRl hgl); have := Int.emod_nonneg (z / 7) (show (n : Int) - 1 ≠ 0 by exact Om.k35 h2 h6 hRl hgl); omega⟩
     obtain ⟨o2, e2, h2', hne⟩ : ∃ o2 : Nat, ((o1 : Int) + 1 + (m : Int)) % (n : Int) = (o2 : Int) /\ o2 < n /\ o1 ≠ o2 := by
      by_cases hb : o1 + 1 + m < n
      ·exact ⟨o1 + 1 + m, by rw [Int.emod_eq_of_lt (by exact Om.k34 ) (by exact Om.k33 hRl hgl hb)]; exact Om.k32 , hb, by exact Om.k31 ⟩
      ·refine ⟨o1 + 1 + m - n, ?_, by exact Om.k30 hRl hgl h1 hm hb, by exact Om.k29 hRl hgl hm hb⟩
       have : ((o1 : Int) + 1 + (m : Int)) = ((o1 + 1 + m - n : Nat) : Int) + (n : Int) := by exact Om.k28 hRl hgl hb
       rw [this, Int.add_emod_right, Int.emod_eq_of_lt (by exact Om.c6) (by exact Om.k27 hRl hgl h1 hm this)]
     obtain ⟨c0, e3, hc0⟩ : ∃ c0 : Nat, z / 49 % (n : Int) = (c0 : Int) /\ c0 < n := ⟨(z / 49 % (n : Int)).toNat, by have := Int.emod_nonneg (z / 49) (show (n : Int) ≠ 0 by exact Om.k25 h2 h6 hRl hgl); exact Om.z1 ‹_›, by have := Int.emod_lt_of_pos (z / 49) (show (0 : Int) < n by exact Om.k26 h2 h6 hRl hgl); have := Int.emod_nonneg (z / 49) (show (n : Int) ≠ 0 by exact Om.k25 h2 h6 hRl hgl); omega⟩
     have ok2 := ex_ok ok hRl h1 h2' hc0
     refine ⟨_, rfl, _, rfl, g, _, rfl, .inr (SqT.of hg), ?_⟩
     rw [hgl]
     refine ⟨_, _, rfl, rfl, (by show (0 : Int) < (n : Int); omega), ?_⟩
     show gName 4 (V.int (z % (n : Int))) _ _ _
     rw [e1]
     refine ⟨_, rfl, _, _, rfl, rfl, _, rfl, _, _, rfl, rfl, ⟨by decide, by decide⟩, _, rfl, g, _, rfl, .inr (SqT.of hg), ?_⟩
     rw [hgl]
     refine ⟨_, _, rfl, rfl, _, _, rfl, rfl, (by show (0 : Int) < (n : Int) - 1; omega), _, _, rfl, rfl, _, rfl, g, _, rfl, .inr (SqT.of hg), ?_⟩
     rw [hgl]
     refine ⟨_, _, rfl, rfl, (by show (0 : Int) < (n : Int); omega), ?_⟩
     show gName 5 (V.int (((o1 : Int) + 1 + z / 7 % ((n : Int) - 1)) % (n : Int))) _ _ _
     rw [em, e2]
     refine ⟨_, rfl, _, rfl, _, rfl, _, rfl, _, _, rfl, rfl, ⟨by decide, by decide⟩, _, rfl, g, _, rfl, .inr (SqT.of hg), ?_⟩
     rw [hgl]
     refine ⟨_, _, rfl, rfl, (by show (0 : Int) < (n : Int); omega), ?_⟩
     refine ⟨g, n, o1, o2, c0, R, by show [V.ref g, .int (o1 : Int), .int (o2 : Int), .int (z / 49 % (n : Int))] = _; rw [e3], hT, ok, hRl, by exact Om.b1 ‹_› rfl, h1, h2', hne, hc0, fun tf H6 s6 hF6 => ?_⟩
     exact ⟨_, _, _, tf, _, rfl, s5.trans s6, hF6, ok2.1, ok2.2⟩
end
end My
namespace My
open PySem L2
theorem toZ_inj : ∀ {a b : List Nat}, toZ a = toZ b -> a = b
 | [], [], _ => rfl
 | [], _ :: _, h => by cases h
 | _ :: _, [], h => by cases h
 | x :: a, y :: b, h => by
  have h' : ((x : Int) :: toZ a) = ((y : Int) :: toZ b) := h
  rw [List.cons.injEq] at h'
  rw [toZ_inj h'.2, show x = y by omega]
theorem mem_toZ {x : Nat} {l : List Nat} : (x : Int) ∈ toZ l ↔ x ∈ l := by
  unfold toZ
  rw [List.mem_map]
  exact ⟨fun ⟨y, hy, e⟩ => by have : y = x := by exact Om.e1 ‹_›
                              exact this ▸ hy, fun h => ⟨x, h, rfl⟩⟩
noncomputable def pkOf (n : Nat) (zs : List Int) : List Nat := (List.range n).filter fun j : Nat => decide ((j : Int) ∈ zs)
noncomputable def isPk (n : Nat) (zs : List Int) : Bool := decide (zs = toZ (pkOf n zs))
theorem filt_all : ∀ n, n < 7 -> ∀ a b c d e g : Bool, decide ((List.range n).filter (fun j => [a, b, c, d, e, g].getD j false) ∈ rp n ((List.range n).filter (fun j => [a, b, c, d, e, g].getD j false)).length) = true := by decide +kernel
theorem filt_rp {n : Nat} (h6 : n <= 6) (f : Nat -> Bool) : (List.range n).filter f ∈ rp n ((List.range n).filter f).length := by
 have h := of_decide_eq_true (filt_all n (by exact Om.f3 ‹_›) (f 0) (f 1) (f 2) (f 3) (f 4) (f 5))
 have e : (List.range n).filter f = (List.range n).filter (fun j => [f 0, f 1, f 2, f 3, f 4, f 5].getD j false) := by
  refine List.filter_congr fun j hj => ?_
  have hj' := List.mem_range.mp hj
  rcases j with _ | _ | _ | _ | _ | _ | j
  ·rfl
  ·rfl
  ·rfl
  ·rfl
  ·rfl
  ·rfl
  ·exact (Om.k24 h6 hj').elim
 rw [e]
 exact h
theorem pk_rp {n : Nat} (h6 : n <= 6) {zs : List Int} (h : isPk n zs = true) : ∃ p : List Nat, zs = toZ p /\ p ∈ rp n p.length /\ p.length <= 6 := by
 have h' := of_decide_eq_true h
 refine ⟨pkOf n zs, h', filt_rp h6 _, ?_⟩
 have := List.length_filter_le (fun j : Nat => decide ((j : Int) ∈ zs)) (List.range n)
 rw [List.length_range] at this
 unfold pkOf
 exact Om.b3 ‹_› ‹_› rfl
theorem rp_pk {n k : Nat} (h6 : n <= 6) (hk : k <= 6) {p : List Nat} (hp : p ∈ rp n k) : isPk n (toZ p) = true := by
 refine decide_eq_true ?_
 have h := rp_self n (by exact Om.f3 ‹_›) k (by exact Om.f3 ‹_›)
 rw [List.all_eq_true] at h
 have h1 := of_decide_eq_true (h p hp)
 have e : pkOf n (toZ p) = p := by
  unfold pkOf
  rw [show (fun j : Nat => decide ((j : Int) ∈ toZ p)) = fun j => decide (j ∈ p) from funext fun j => by rw [decide_eq_decide]; exact mem_toZ]
  exact h1
 rw [e]
theorem due_mem {n : Nat} {R : List (List Int)} {p : List Nat × List Nat} (h : p ∈ dueL n R) : ∃ k, 2 <= k /\ k < n /\ p.1 ∈ rp n k /\ p.2 ∈ rp n k /\ cntT n (valsL R p.1 p.2) = k := by
 unfold dueL at h
 obtain ⟨k, hk, h⟩ := List.mem_flatMap.mp h
 have hk' := List.mem_range'_1.mp hk
 unfold partsK at h
 obtain ⟨r, hr, h⟩ := List.mem_flatMap.mp h
 unfold rowK at h
 obtain ⟨c, hc, rfl⟩ := List.mem_map.mp h
 obtain ⟨hc, e⟩ := List.mem_filter.mp hc
 exact ⟨k, by exact Om.k23 hk', by exact Om.k22 hk', hr, hc, of_decide_eq_true e⟩
theorem mem_due {n k : Nat} {R : List (List Int)} {r c : List Nat} (h2 : 2 <= k) (hn : k < n) (hr : r ∈ rp n k) (hc : c ∈ rp n k) (e : cntT n (valsL R r c) = k) : (r, c) ∈ dueL n R := by
 unfold dueL
 refine List.mem_flatMap.mpr ⟨k, List.mem_range'_1.mpr ⟨h2, by exact Om.k21 h2 hn e⟩, ?_⟩
 unfold partsK
 refine List.mem_flatMap.mpr ⟨r, hr, ?_⟩
 unfold rowK
 exact List.mem_map.mpr ⟨c, List.mem_filter.mpr ⟨hc, decide_eq_true e⟩, rfl⟩
noncomputable def isPt (n : Nat) (R : List (List Int)) (zr zc : List Int) : Bool := decide ((zr.length : Int) = (zc.length : Int)) && (decide ((2 : Int) <= (zr.length : Int)) && decide ((zr.length : Int) < (n : Int))) && isPk n zr && isPk n zc && decide ((cntT n (valsL R (pkOf n zr) (pkOf n zc)) : Int) = (zr.length : Int))
theorem pk_self {n k : Nat} (h6 : n <= 6) (hk : k <= 6) {p : List Nat} (hp : p ∈ rp n k) : pkOf n (toZ p) = p := (toZ_inj (of_decide_eq_true (rp_pk h6 hk hp))).symm
theorem pt_due {n : Nat} (h6 : n <= 6) {R : List (List Int)} {zr zc : List Int} (h : isPt n R zr zc = true) : ∃ (k : Nat) (r c : List Nat), zr = toZ r /\ zc = toZ c /\ 2 <= k /\ k < n /\ r ∈ rp n k /\ c ∈ rp n k /\ cntT n (valsL R r c) = k /\ zr.length = k /\ (r, c) ∈ dueL n R := by
 unfold isPt at h
 rw [Bool.and_eq_true, Bool.and_eq_true, Bool.and_eq_true, Bool.and_eq_true, Bool.and_eq_true] at h
 obtain ⟨⟨⟨⟨h1, h2, h3⟩, h4⟩, h5⟩, h6'⟩ := h
 have h1 := of_decide_eq_true h1
 have h2 := of_decide_eq_true h2
 have h3 := of_decide_eq_true h3
 have h6' := of_decide_eq_true h6'
 obtain ⟨r, rfl, hr, hr6⟩ := pk_rp h6 h4
 obtain ⟨c, rfl, hc, hc6⟩ := pk_rp h6 h5
 rw [toZ_len] at h1 h2 h3 h6'
 rw [toZ_len] at h1
 rw [pk_self h6 hr6 hr, pk_self h6 hc6 hc] at h6'
 have hc' : c ∈ rp n r.length := by rw [show r.length = c.length by exact Om.e1 ‹_›]; exact hc
 exact ⟨r.length, r, c, rfl, rfl, by exact Om.k20 h2 hr6 h1 h6', by exact Om.k19 h3 h1 h6', hr, hc', by exact Om.e1 ‹_›, toZ_len _, mem_due (by exact Om.k20 h2 hr6 h1 h6') (by exact Om.k19 h3 h1 h6') hr hc' (by exact Om.e1 ‹_›)⟩
theorem due_pt {n : Nat} (h6 : n <= 6) {R : List (List Int)} {p : List Nat × List Nat} (h : p ∈ dueL n R) : isPt n R (toZ p.1) (toZ p.2) = true := by
 obtain ⟨k, h2, hn, hr, hc, e⟩ := due_mem h
 have pr := rp_pick h6 (by exact Om.b2 ‹_› ‹_› rfl) hr
 have pc := rp_pick h6 (by exact Om.b2 ‹_› ‹_› rfl) hc
 unfold isPt
 rw [toZ_len, toZ_len, pr.len, pc.len, pk_self h6 (by exact Om.b2 ‹_› ‹_› rfl) hr, pk_self h6 (by exact Om.b2 ‹_› ‹_› rfl) hc, rp_pk h6 (by exact Om.b2 ‹_› ‹_› rfl) hr, rp_pk h6 (by exact Om.b2 ‹_› ‹_› rfl) hc, e, decide_eq_true rfl, decide_eq_true (show (2 : Int) <= (k : Int) by exact Om.k18 h2 e), decide_eq_true (show (k : Int) < (n : Int) by exact Om.c5 ‹_›)]
 rfl
theorem fm_inZ (n : Nat) (zs : List Int) : (List.range n).filterMap (fun j : Nat => if decide ((j : Int) ∈ zs) = true then some (V.int (j : Int)) else none) = (toZ (pkOf n zs)).map V.int := by
 unfold toZ pkOf
 induction List.range n with
 | nil => rfl
 | cons j l ih =>
  rw [List.filterMap_cons, List.filter_cons]
  cases h : decide ((j : Int) ∈ zs) with
  | true => rw [if_pos rfl, if_pos rfl, ih, List.map_cons, List.map_cons]
  | false => rw [if_neg Bool.false_ne_true, if_neg Bool.false_ne_true, ih]
theorem eqVs_ints : ∀ l m : List Int, eqVs (l.map V.int) (m.map V.int) = decide (l = m)
 | [], [] => rfl
 | [], _ :: _ => by simp [eqVs]
 | _ :: _, [] => by simp [eqVs]
 | x :: l, y :: m => by
  have ih := eqVs_ints l m
  unfold eqVs at ih ⊢
  rw [List.map_cons, List.map_cons, List.zip_cons_cons, List.all_cons, List.length_cons, List.length_cons]
  rw [Bool.eq_iff_iff, Bool.and_eq_true, decide_eq_true_eq, decide_eq_true_eq] at ih
  rw [Bool.eq_iff_iff, Bool.and_eq_true, Bool.and_eq_true, decide_eq_true_eq, decide_eq_true_eq, List.cons.injEq]
  show (_ /\ (x == y) = true /\ _) ↔ _
  rw [beq_iff_eq]
  exact ⟨fun h => ⟨h.2.1, ih.mp ⟨by omega, h.2.2⟩⟩, fun h => ⟨by have := (ih.mpr h.2).1; omega, h.1, (ih.mpr h.2).2⟩⟩
inductive SpPickI (vs : List V) (H : Hp) (Q : VK) : Prop where
 | mk (a : Addr) (n : Nat) (zs : List Int) (_ : vs = [.ref a, .int (n : Int)]) (_ : H a = some (.tup (zs.map V.int))) (_ : n <= 6) (_ : ∀ H', Same H H' -> Q (.bl (isPk n zs)) H') : SpPickI vs H Q
noncomputable def spPick : Sp := fun vs H Q _ => SpPickI vs H Q
inductive SpPartI (vs : List V) (H : Hp) (Q : VK) : Prop where
 | mk (g ra ca : Addr) (n : Nat) (R : List (List Int)) (zr zc : List Int) (_ : vs = [.ref g, .ref ra, .ref ca]) (_ : TG H g R) (_ : OkRows n R) (_ : R.length = n) (_ : n <= 6) (_ : H ra = some (.tup (zr.map V.int))) (_ : H ca = some (.tup (zc.map V.int))) (_ : ∀ H', Same H H' -> Q (.bl (isPt n R zr zc)) H') : SpPartI vs H Q
noncomputable def spPart : Sp := fun vs H Q _ => SpPartI vs H Q
section
variable {P : Program} {w : World} {K : PySem.W.Frag} {mg : Str -> Option Value} {base : Heap}
theorem scIsPick : FnScope ["numbers", "size"] ["numbers", "size"] (defScope sIsPick) := ⟨rfl, rfl, rfl, by decide +kernel, rfl, by decide +kernel, by decide +kernel⟩
theorem ok_isPick {f : Addr} {fd : FuncData} (F : Fun K "is_pick" "is_pick" sIsPick f fd) (T : Blt mg) : FnOk P w K mg base CX0 1 f fd ["numbers", "size"] spPick := by
 refine F.ok scIsPick (fun vs H Q E h => ?_) (fun cdv A outer s H vs Q E hr h => ?_)
 ·obtain ⟨_, _, _, rfl, _⟩ := h
  rfl
 ·obtain ⟨a, n, zs, rfl, ha, h6, q⟩ := h
  have hu0 : ((A.deeper (PyProof.Rows.envOfC "is_pick" (defScope sIsPick) s.heap.objs.size f cdv))).units < cLine := by have := hr.un; omega
  refine' ⟨_, pss_one (ps_ret (pe_cmpR (op_eqL hu0 K) (pe_callTy (call_listK K) rfl T.list bt_list (pa_cons (pv 0) pa_nil)) ?c (nomark _))), ?rd⟩
  case c => exact pe_lc ["number", "numbers"] [none, some 0] rfl rfl (pi_range1 rfl T.range (pa_cons (pv 1) pa_nil)) (fun _ _ _ _ _ => pg_c 0) (fun _ _ _ _ _ => pts_one (pt_cmpR (op_inK K) (pv 0) (pv 1) rfl)) (fun _ _ _ _ _ => pv 0)
  case rd =>
   refine ⟨_, rfl, a, _, rfl, .inr (SqT.of ha), fun l1 hl1 => ?_⟩
   have s1 : Same H (upd H l1 (.lst (zs.map V.int))) := Same.new hl1
   have h1 : (upd H l1 (.lst (zs.map V.int))) l1 = some (.lst (zs.map V.int)) := upd_same
   generalize upd H l1 (.lst (zs.map V.int)) = H1 at s1 h1 ⊢
   refine ⟨_, rfl, (n : Int), rfl, by exact Om.c2, by exact Om.c1 ‹_› rfl, fun lc hlc => ?_⟩
   rw [Int.toNat_natCast]
   refine comp_pure (fun j => if decide ((j : Int) ∈ zs) = true then some (V.int (j : Int)) else none) (fun σ => ∃ v, σ = [v, some (.ref a)]) (wlk_range (n := n)) (by rw [rng_len]; exact small6 (by exact Om.b1 ‹_› rfl)) hlc (fun _ _ => trivial) ⟨none, rfl⟩ ?_ ?_
   ·rintro j x σ H' R' hj ⟨v, rfl⟩ sm kk
    obtain ⟨hjn, rfl⟩ := rng_get hj
    have kk' := fun v' => kk [v', some (.ref a)] H' ⟨v', rfl⟩ (Same.refl _)
    refine ⟨_, rfl, _, rfl, a, _, rfl, .inr (SqT.of ((s1.trans sm) _ _ ha)), rfl, map_ints_flat _, _, rfl, ?_⟩
    rw [if_neg Bool.false_ne_true, inV_ints]
    refine ite2 (fun hd => ?_) (fun hd => ?_)
    ·rw [if_pos hd] at kk'
     exact ⟨_, rfl, kk' _⟩
    ·rw [if_neg hd] at kk'
     exact kk' _
   intro H2 s2 h2
   rw [rng_len, fm_inZ] at h2
   refine ⟨l1, lc, _, _, rfl, rfl, SqL.of (s2 _ _ h1), SqL.of h2, .inl ⟨map_ints_flat _, map_ints_flat _⟩, ?_⟩
   have := q _ (s1.trans s2)
   unfold isPk at this
   rw [<- eqVs_ints] at this
   exact this
theorem scIsPart : FnScope ["square", "rows", "columns", "size"] ["square", "rows", "columns"] (defScope sIsPart) := ⟨rfl, rfl, rfl, by decide +kernel, rfl, by decide +kernel, by decide +kernel⟩
theorem ok_isPart {f fP fT : Addr} {fd dP dT : FuncData} (F : Fun K "is_part" "is_part" sIsPart f fd) (T : Blt mg) (DP : Dfn K mg "is_pick" sIsPick ["numbers", "size"] fP dP) (DT : Dfn K mg "things_in" sThingsIn ["square", "rows", "columns"] fT dT) : FnOk P w K mg base CX0 2 f fd ["square", "rows", "columns"] spPart := by
 have GP : FnOk P w K mg base CX0 1 fP dP ["numbers", "size"] spPick := ok_isPick DP.F T
 have GT : FnOk P w K mg base CX0 1 fT dT ["square", "rows", "columns"] spThings := ok_thingsIn DT.F T
 refine F.ok scIsPart (fun vs H Q E h => ?_) (fun cdv A outer s H vs Q E hr h => ?_)
 ·obtain ⟨_, _, _, _, _, _, _, rfl, _⟩ := h
  rfl
 ·obtain ⟨g, ra, ca, n, R, zr, zc, rfl, hT, ok, hRl, h6, hra, hca, q⟩ := h
  refine' ⟨_, pss_cons ?s0 (pss_cons (ps_if (PW.pt (pw_or ?c0 (pw_or1 ?c1))) (pss_one (ps_ret pe_bl)) pss_nil) (pss_cons (ps_if (PW.pt (pw_or ?d0 (pw_or1 ?d1))) (pss_one (ps_ret pe_bl)) pss_nil) (pss_one (ps_ret ?r)))), ?rd⟩
  case s0 => exact ps_set (i := 3) scIsPart.nd rfl (Or.inl rfl) (pe_callB (call_lenK K) rfl T.len PySem.boot_len (pa_cons (pv 0) pa_nil))
  case c0 => exact pt_cmpR op_ne (pe_callB (call_lenK K) rfl T.len PySem.boot_len (pa_cons (pv 1) pa_nil)) (pe_callB (call_lenK K) rfl T.len PySem.boot_len (pa_cons (pv 2) pa_nil)) (nomark _)
  case c1 => exact pt_not (pt_chain op_le op_lt pe_int (pe_callB (call_lenK K) rfl T.len PySem.boot_len (pa_cons (pv 1) pa_nil)) (pv 3))
  case d0 => exact pt_not (pt_val (pe_call GP hr rfl DP.m DP.F.kp DP.b .nil pass0 (pa_cons (pv 1) (pa_cons (pv 3) pa_nil))))
  case d1 => exact pt_not (pt_val (pe_call GP hr rfl DP.m DP.F.kp DP.b .nil pass0 (pa_cons (pv 2) (pa_cons (pv 3) pa_nil))))
  case r => exact pe_cmpR op_eq (pe_callB (call_lenK K) rfl T.len PySem.boot_len (pa_cons (pe_call GT hr rfl DT.m DT.F.kp DT.b .nil pass0 (pa_cons (pv 0) (pa_cons (pv 1) (pa_cons (pv 2) pa_nil)))) pa_nil)) (pe_callB (call_lenK K) rfl T.len PySem.boot_len (pa_cons (pv 1) pa_nil)) (nomark _)
  case rd =>
   obtain ⟨gs, hg, hG⟩ := id hT
   have hgl : (gs.map V.ref).length = n := by rw [List.length_map, hG.length, hRl]
   have lr : (zr.map V.int).length = zr.length := List.length_map ..
   have lc : (zc.map V.int).length = zc.length := List.length_map ..
   have qf : isPt n R zr zc = false -> ∀ H', Same H H' -> Q (.bl false) H' := fun e => by rw [e] at q; exact q
   refine ⟨_, rfl, g, _, rfl, .inr (SqT.of hg), ?_⟩
   rw [hgl]
   refine ⟨_, rfl, ra, _, rfl, .inr (SqT.of hra), _, rfl, ca, _, rfl, .inr (SqT.of hca), rfl, _, rfl, ?_⟩
   rw [lr, lc]
   by_cases e0 : zr.length = zc.length
   rotate_left
   ·rw [show decide (V.int (zr.length : Int) = V.int (zc.length : Int)) = false from decide_eq_false fun z => e0 (by rw [V.int.injEq] at z; exact Om.e1 ‹_›)]
    refine iteT (iteT (qf ?_ _ (Same.refl _)))
    unfold isPt
    rw [decide_eq_false (show ¬ ((zr.length : Int) = (zc.length : Int)) by exact Om.k17 e0)]
    rfl
   rw [show decide (V.int (zr.length : Int) = V.int (zc.length : Int)) = true from decide_eq_true (by rw [e0])]
   refine iteF ?_
   refine ⟨_, rfl, ra, _, rfl, .inr (SqT.of hra), _, _, rfl, rfl, _, rfl, ?_⟩
   rw [lr]
   by_cases e1 : 2 <= zr.length
   rotate_left
   ·rw [decide_eq_false (show ¬ ((2 : Int) <= (zr.length : Int)) by exact Om.k16 lr e0 e1)]
    refine iteF ⟨_, rfl, iteT (qf ?_ _ (Same.refl _))⟩
    unfold isPt
    rw [decide_eq_false (show ¬ ((2 : Int) <= (zr.length : Int)) by exact Om.k16 lr e0 e1), Bool.false_and, Bool.and_false]
    rfl
   rw [decide_eq_true (show (2 : Int) <= (zr.length : Int) by exact Om.k13 e0 e1)]
   refine iteT ?_
   refine ⟨_, rfl, _, _, rfl, rfl, _, rfl, ?_⟩
   by_cases e2 : zr.length < n
   rotate_left
   ·rw [decide_eq_false (show ¬ ((zr.length : Int) < (n : Int)) by exact Om.k15 hgl e0 e2)]
    refine iteT (qf ?_ _ (Same.refl _))
    unfold isPt
    rw [decide_eq_false (show ¬ ((zr.length : Int) < (n : Int)) by exact Om.k15 hgl e0 e2), Bool.and_false, Bool.and_false]
    rfl
   rw [decide_eq_true (show (zr.length : Int) < (n : Int) by exact Om.c5 ‹_›)]
   refine iteF ?_
   have hpt : isPt n R zr zc = (isPk n zr && isPk n zc && decide ((cntT n (valsL R (pkOf n zr) (pkOf n zc)) : Int) = (zr.length : Int))) := by
    unfold isPt
    rw [decide_eq_true (show (zr.length : Int) = (zc.length : Int) by exact Om.k14 e0), decide_eq_true (show (2 : Int) <= (zr.length : Int) by exact Om.k13 e0 e1), decide_eq_true (show (zr.length : Int) < (n : Int) by exact Om.c5 ‹_›)]
    rfl
   refine ⟨_, rfl, _, rfl, ra, n, zr, rfl, hra, h6, fun H1 s1 => ⟨_, rfl, ?_⟩⟩
   cases p1 : isPk n zr with
   | false => exact iteT (iteT (qf (by rw [hpt, p1]; rfl) _ s1))
   | true =>
   refine iteF ?_
   refine ⟨_, rfl, _, rfl, ca, n, zc, rfl, s1 _ _ hca, h6, fun H2 s2 => ⟨_, rfl, ?_⟩⟩
   cases p2 : isPk n zc with
   | false => exact iteT (qf (by rw [hpt, p2, p1]; rfl) _ (s1.trans s2))
   | true =>
   refine iteF ?_
   have s12 := s1.trans s2
   obtain ⟨r, er, hr', hr6⟩ := pk_rp h6 p1
   obtain ⟨c, ec, hc', hc6⟩ := pk_rp h6 p2
   have e0' : c.length = r.length := by rw [er, ec, toZ_len, toZ_len] at e0; exact e0.symm
   rw [e0'] at hc'
   have pkr := rp_pick h6 hr6 hr'
   have pkc := rp_pick h6 hr6 hc'
   have ek : zr.length = r.length := by rw [er, toZ_len]
   have g1 : pkOf n zr = r := by rw [er]; exact pk_self h6 hr6 hr'
   have g2 : pkOf n zc = c := by rw [ec]; exact pk_self h6 hr6 hc'
   refine ⟨_, rfl, _, rfl, _, rfl, g, ra, ca, n, r.length, R, r, c, rfl, hT.same s12, ok, hRl, h6, by rw [s12 _ _ hra, er], by rw [s12 _ _ hca, ec], pkr, pkc, by assumption, fun l H3 s3 hl => ?_⟩
   refine ⟨l, _, rfl, .inl (SqL.of hl), _, rfl, ra, _, rfl, .inr (SqT.of ((s12.trans s3) _ _ hra)), ?_⟩
   have := q _ (s12.trans s3)
   rw [hpt, p1, p2, g1, g2, Bool.true_and, Bool.true_and] at this
   rw [lr, show ((tsL n R r c).map V.int).length = cntT n (valsL R r c) by rw [List.length_map, tsL_len]]
   refine ⟨rfl, ?_⟩
   rw [show decide (V.int (cntT n (valsL R r c) : Int) = V.int (zr.length : Int)) = decide ((cntT n (valsL R r c) : Int) = (zr.length : Int)) by rw [decide_eq_decide, V.int.injEq]]
   exact this
end
end My
namespace My
open PySem L2
abbrev bmV : List Value := [.type "ValueError", .type "Exception", .type "BaseException", .type "object"]
inductive SpPutInI (cP cQ : Addr) (vs : List V) (H : Hp) (Q : VK) (E : XK) : Prop where
 | mk (g ra ca gi : Addr) (n m : Nat) (R I : List (List Int)) (zr zc : List Int) (_ : vs = [.ref g, .ref ra, .ref ca, .ref gi]) (_ : TG H g R) (_ : OkRows n R) (_ : R.length = n) (_ : n <= 6) (_ : H ra = some (.tup (zr.map V.int))) (_ : H ca = some (.tup (zc.map V.int))) (_ : TG H gi I) (_ : OkRows m I) (_ : I.length = m) (_ : (isPt n R zr zc = false -> ∀ H', Same H H' -> E (.ref cP) none H')) (_ : (isPt n R zr zc = true -> m ≠ zr.length -> ∀ H', Same H H' -> E (.ref cQ) none H')) (_ : (isPt n R zr zc = true -> m = zr.length -> ∀ t H' R', Same H H' -> TG H' t R' -> OkRows n R' -> R'.length = n -> Q (.ref t) H')) : SpPutInI cP cQ vs H Q E
noncomputable def spPutIn (cP cQ : Addr) : Sp := fun vs H Q E => SpPutInI cP cQ vs H Q E
section
variable {P : Program} {w : World} {K : PySem.W.Frag} {mg : Str -> Option Value} {base : Heap}
theorem scPutIn : FnScope ["square", "rows", "columns", "inner", "things", "changed", "row", "numbers", "column", "number"] ["square", "rows", "columns", "inner"] (defScope sPutIn) := ⟨rfl, rfl, rfl, by decide +kernel, rfl, by decide +kernel, by decide +kernel⟩
theorem ok_putIn {f fP fT fW fK cP cQ : Addr} {fd dP dT dW dK : FuncData} (F : Fun K "put_in" "put_in" sPutIn f fd) (T : Blt mg) (DP : Dfn K mg "is_part" sIsPart ["square", "rows", "columns"] fP dP) (DK : Dfn K mg "is_pick" sIsPick ["numbers", "size"] fK dK) (DT : Dfn K mg "things_in" sThingsIn ["square", "rows", "columns"] fT dT) (DW : Dfn K mg "with_entry" sWith ["begun", "row", "column", "entry"] fW dW)
  (mP : mg "NoPart" = some (.ref cP)) (xP : PySem.W.excIn K cP bmV "ValueError.__new__" = true) (mQ : mg "NoSquare" = some (.ref cQ)) (xQ : PySem.W.excIn K cQ bmV "ValueError.__new__" = true) : FnOk P w K mg base (CX1 P w) 3 f fd ["square", "rows", "columns", "inner"] (spPutIn cP cQ) := by
 have GP : FnOk P w K mg base CX0 2 fP dP ["square", "rows", "columns"] spPart := ok_isPart DP.F T DK DT
 have GT : FnOk P w K mg base CX0 2 fT dT ["square", "rows", "columns"] spThings := (ok_thingsIn DT.F T).mono (by decide)
 have GW : FnOk P w K mg base CX0 2 fW dW ["begun", "row", "column", "entry"] spWith := (ok_with DW.F T).mono (by decide)
 refine F.okX scPutIn (fun vs H Q E h => ?_) (fun cdv A outer s H vs Q E hr h => ?_)
 ·obtain ⟨_, _, _, _, _, _, _, _, _, _, rfl, _⟩ := h
  rfl
 ·obtain ⟨g, ra, ca, gi, n, m, R, I, zr, zc, rfl, hT, ok, hRl, h6, hra, hca, hI, okI, hIl, k1, k2, k3⟩ := h
  refine' ⟨_, pss_cons (ps_if ?c0 (pss_one (ps_raise rfl mP xP PySem.F.excBase_ValueError)) pss_nil) (pss_cons (ps_if ?c1 (pss_one (ps_raise rfl mQ xQ PySem.F.excBase_ValueError)) pss_nil) (pss_cons ?s2 (pss_cons (ps_set (i := 5) scPutIn.nd rfl (Or.inl rfl) (pv 0)) (pss_cons (ps_for PassesOwn.leaving rfl ?i1 ?g1 (pss_one (ps_for PassesOwn.leaving rfl ?i2 ?g2 (pss_one ?b)))) (pss_one (ps_ret (pv 5))))))), ?rd⟩
  case c0 => exact pt_not (pt_val (pe_call GP hr rfl DP.m DP.F.kp DP.b .nil pass0 (pa_cons (pv 0) (pa_cons (pv 1) (pa_cons (pv 2) pa_nil)))))
  case c1 => exact pt_cmpR op_ne (pe_callB (call_lenK K) rfl T.len PySem.boot_len (pa_cons (pv 3) pa_nil)) (pe_callB (call_lenK K) rfl T.len PySem.boot_len (pa_cons (pv 1) pa_nil)) (nomark _)
  case s2 => exact ps_set (i := 4) scPutIn.nd rfl (Or.inl rfl) (pe_call GT hr rfl DT.m DT.F.kp DT.b .nil pass0 (pa_cons (pv 0) (pa_cons (pv 1) (pa_cons (pv 2) pa_nil))))
  case i1 => exact pi_zipT K rfl T.zip (pa_cons (pv 1) (pa_cons (pv 3) pa_nil))
  case g1 => exact pg_tup rfl (pgs_cons (pg_name (i := 6) scPutIn.nd rfl (Or.inl rfl)) (pgs_cons (pg_name (i := 7) scPutIn.nd rfl (Or.inl rfl)) pgs_nil))
  case i2 => exact pi_zipT K rfl T.zip (pa_cons (pv 2) (pa_cons (pv 7) pa_nil))
  case g2 => exact pg_tup rfl (pgs_cons (pg_name (i := 8) scPutIn.nd rfl (Or.inl rfl)) (pgs_cons (pg_name (i := 9) scPutIn.nd rfl (Or.inl rfl)) pgs_nil))
  case b => exact ps_set (i := 5) scPutIn.nd rfl (Or.inl rfl) (pe_call GW hr rfl DW.m DW.F.kp DW.b .nil pass0 (pa_cons (pv 5) (pa_cons (pv 6) (pa_cons (pv 8) (pa_cons (pe_ix ix_list (pv 4) (pv 9) (fun _ _ => rfl)) pa_nil)))))
  case rd =>
   obtain ⟨is, hi, hIs⟩ := id hI
   have hil : (is.map V.ref).length = m := by rw [List.length_map, hIs.length, hIl]
   refine ⟨_, rfl, _, rfl, _, rfl, g, ra, ca, n, R, zr, zc, rfl, hT, ok, hRl, h6, hra, hca, fun H1 s1 => ⟨_, rfl, ?_⟩⟩
   cases hpt : isPt n R zr zc with
   | false => exact iteT (k1 hpt _ s1)
   | true =>
   refine iteF ?_
   refine ⟨_, rfl, gi, _, rfl, .inr (SqT.of (s1 _ _ hi)), _, rfl, ra, _, rfl, .inr (SqT.of (s1 _ _ hra)), rfl, _, rfl, ?_⟩
   rw [hil, show (zr.map V.int).length = zr.length from List.length_map ..]
   by_cases hm : m = zr.length
   rotate_left
   ·rw [show decide (V.int (m : Int) = V.int (zr.length : Int)) = false from decide_eq_false fun z => hm (by rw [V.int.injEq] at z; exact Om.e1 ‹_›)]
    exact iteT (k2 hpt hm _ s1)
   rw [show decide (V.int (m : Int) = V.int (zr.length : Int)) = true from decide_eq_true (by rw [hm])]
   refine iteF ?_
   obtain ⟨k, r, c, er, ec, hk2, hkn, pr, pc, hcnt, hlk, _⟩ := pt_due h6 hpt
   have q := fun t H' R' => k3 hpt hm t H' R'
   have hmk : m = k := by exact Om.g1 ‹_› ‹_›
   subst er
   subst ec
   subst hmk
   clear hlk k1 k2 k3 hpt hm
   have pkr := rp_pick h6 (by exact Om.b2 ‹_› ‹_› rfl) pr
   have pkc := rp_pick h6 (by exact Om.b2 ‹_› ‹_› rfl) pc
   have po : PartOk n m R r c := ⟨pkr, pkc, hcnt⟩
   have lr : ((toZ r).map V.int).length = m := by rw [List.length_map, toZ_len, pkr.len]
   have lc : ((toZ c).map V.int).length = m := by rw [List.length_map, toZ_len, pkc.len]
   refine ⟨_, rfl, _, rfl, _, rfl, g, ra, ca, n, m, R, r, c, rfl, hT.same s1, ok, hRl, h6, s1 _ _ hra, s1 _ _ hca, pkr, pkc, by exact Om.b2 ‹_› ‹_› rfl, fun lt H2 s2 hlt => ?_⟩
   have s12 := s1.trans s2
   have hts := po.len
   obtain ⟨okF, hlF⟩ := put_ok po ok hRl okI hIl
   generalize tsL n R r c = ts at hlt hts okF hlF
   refine ⟨_, rfl, ?_⟩
   refine ⟨_, rfl, _, rfl, ra, gi, _, _, rfl, SqT.of (s12 _ _ hra), SqT.of (s12 _ _ hi), ?_⟩
   refine for_of2 (n := m) (Y := fun i H v H' => ∃ q x y, v = .ref q /\ H q = none /\ ((toZ r).map V.int)[i]? = some x /\ (is.map V.ref)[i]? = some y /\ H' = upd H q (.tup [x, y])) (P := fun H' => SqT K H' ra ((toZ r).map V.int) /\ SqT K H' gi (is.map V.ref))
    (fun i H' h hi => ⟨_, _, ((toZ r).map V.int)[i]'(by rw [lr]; assumption), (is.map V.ref)[i]'(by rw [hil]; assumption), h.1, h.2, List.getElem?_eq_getElem _, List.getElem?_eq_getElem _⟩)
    (fun i H' v H'' h zz0 _ => by obtain ⟨q, x, y, e1, e2, e3, e4, e5⟩ := zz0; exact ⟨q, x, y, e1, e2, e3 _ h.1, e4 _ h.2, e5⟩) (fun i H' h hi => ⟨_, _, h.1, h.2, .inl (by rw [lr]; assumption)⟩)
    (fun a σ H3 => ∃ (t : Addr) (v6 v7 v8 v9 : Option V), σ = [some (.ref g), some (.ref ra), some (.ref ca), some (.ref gi), some (.ref lt), some (.ref t), v6, v7, v8, v9] /\ Same H2 H3 /\ TG H3 t (mk n (part1 R r c ts I a 0)))
    ⟨g, none, none, none, none, rfl, Same.refl _, ?_⟩ (fun j σ H3 zz0 => by obtain ⟨_, _, _, _, _, _, s3, _⟩ := zz0; exact ⟨SqT.of ((s12.trans s3) _ _ hra), SqT.of ((s12.trans s3) _ _ hi)⟩) ?_ ?_
   ·rw [show mk n (part1 R r c ts I 0 0) = R from (mk_congr fun i j _ _ => part1_0).trans (mk_of ok hRl)]
    exact hT.same s12
   ·rintro a x σ H3 H4 ha ⟨t, v6, v7, v8, v9, rfl, s3, hTt⟩ ⟨z, x, y, rfl, hz, hx, hy, rfl⟩
    obtain ⟨har, rfl⟩ := toZ_at hx
    have hri := pkr.lt _ (List.getElem_mem har)
    have hga : r.getD a 0 = r[a] := gD har
    rw [List.getElem?_map] at hy
    cases hpa : is[a]? with
    | none => rw [hpa] at hy; cases hy
    | some ia =>
    rw [hpa] at hy
    cases hy
    obtain ⟨Ia, hIa, hia⟩ := Paired.getL hIs hpa
    have hIg : I.getD a [] = Ia := by rw [List.getD_eq_getElem?_getD, hIa]; rfl
    have hIal : Ia.length = m := by rw [<- hIg]; exact (ent_row okI hIl ha).len
    have lI : (Ia.map V.int).length = m := by rw [List.length_map]; exact hIal
    have s4 : Same H2 (upd H3 z (.tup [.int ((r[a] : Nat) : Int), .ref ia])) := s3.trans (Same.new hz)
    have hTt4 : TG (upd H3 z (.tup [.int ((r[a] : Nat) : Int), .ref ia])) t _ := hTt.same (Same.new hz)
    refine ⟨z, _, rfl, SqT.of upd_same, rfl, _, _, rfl, _, _, rfl, rfl, ?_⟩
    generalize upd H3 z (.tup [.int ((r[a] : Nat) : Int), .ref ia]) = H4 at s4 hTt4 ⊢
    have s14 := s12.trans s4
    refine ⟨_, rfl, _, rfl, ca, ia, _, _, rfl, SqT.of (s14 _ _ hca), SqT.of (s14 _ _ hia), ?_⟩
    refine for_of2 (n := m) (Y := fun i H v H' => ∃ q x y, v = .ref q /\ H q = none /\ ((toZ c).map V.int)[i]? = some x /\ (Ia.map V.int)[i]? = some y /\ H' = upd H q (.tup [x, y])) (P := fun H' => SqT K H' ca ((toZ c).map V.int) /\ SqT K H' ia (Ia.map V.int))
     (fun i H' h hi => ⟨_, _, ((toZ c).map V.int)[i]'(by rw [lc]; assumption), (Ia.map V.int)[i]'(by rw [lI]; assumption), h.1, h.2, List.getElem?_eq_getElem _, List.getElem?_eq_getElem _⟩)
     (fun i H' v H'' h zz0 _ => by obtain ⟨q, x, y, e1, e2, e3, e4, e5⟩ := zz0; exact ⟨q, x, y, e1, e2, e3 _ h.1, e4 _ h.2, e5⟩) (fun i H' h hi => ⟨_, _, h.1, h.2, .inl (by rw [lc]; assumption)⟩)
     (fun b σ H5 => ∃ (t : Addr) (v8 v9 : Option V), σ = [some (.ref g), some (.ref ra), some (.ref ca), some (.ref gi), some (.ref lt), some (.ref t), some (.int ((r[a] : Nat) : Int)), some (.ref ia), v8, v9] /\ Same H4 H5 /\ TG H5 t (mk n (part1 R r c ts I a b)))
     ⟨t, _, _, rfl, Same.refl _, hTt4⟩ (fun j σ H5 zz0 => by obtain ⟨_, _, _, _, s5, _⟩ := zz0; exact ⟨SqT.of ((s14.trans s5) _ _ hca), SqT.of ((s14.trans s5) _ _ hia)⟩) ?_ ?_
    ·rintro b x σ H5 H6 hb ⟨t, w8, w9, rfl, s5, hTt⟩ ⟨z, x, y, rfl, hz, hx, hy, rfl⟩
     obtain ⟨hbc, rfl⟩ := toZ_at hx
     have hcb := pkc.lt _ (List.getElem_mem hbc)
     have hgb : c.getD b 0 = c[b] := gD hbc
     have hy' : y = .int (ent I a b) := by
      rw [List.getElem?_map, List.getElem?_eq_getElem (by exact Om.a1 ‹_› ‹_›)] at hy
      cases hy
      unfold ent
      rw [hIg, gD (by exact Om.a1 ‹_› ‹_›)]
     subst hy'
     have hv := (ent_row okI hIl ha).val hb
     obtain ⟨v, hm, hmk⟩ : ∃ v : Nat, ent I a b = (v : Int) /\ v < m := ⟨(ent I a b).toNat, by unfold ent; exact Om.k12 har hbc hv, by unfold ent; exact Om.k11 hil hcnt lr lc hts har hIal lI hb hbc hv⟩
     have s6 : Same H5 (upd H5 z (.tup [.int ((c[b] : Nat) : Int), .int (ent I a b)])) := Same.new hz
     refine ⟨z, _, rfl, SqT.of upd_same, rfl, _, _, rfl, _, _, rfl, rfl, ?_⟩
     generalize upd H5 z (.tup [.int ((c[b] : Nat) : Int), .int (ent I a b)]) = H6 at s6 ⊢
     have hl6 := (s4.trans (s5.trans s6)) _ _ hlt
     refine ⟨_, rfl, _, rfl, _, rfl, _, rfl, _, rfl, lt, _, _, .int (ts.getD v 0), rfl, rfl, SqL.of hl6, ?_, ?_⟩
     ·rw [hm]
      exact int_at (by exact Om.a1 ‹_› ‹_›)
     refine ⟨t, n, mk n (part1 R r c ts I a b), r[a], c[b], ts.getD v 0, rfl, hTt.same s6, mk_len _ _, by rw [mk_row hri, List.length_map, List.length_range], h6, hri, hcb, fun t' H7 s7 hT7 => ?_⟩
     refine ⟨t', _, _, rfl, s5.trans (s6.trans s7), ?_⟩
     rw [setI_mk hri hcb] at hT7
     rw [show mk n (part1 R r c ts I a (b + 1)) = mk n (fun i j => if i = r[a] /\ j = c[b] then ts.getD v 0 else part1 R r c ts I a b i j) from mk_congr fun i j _ _ => by rw [part1_succ pkr.nd pkc.nd har hbc, hga, hgb, hm, Int.toNat_natCast]]
     exact hT7
    ·rintro σ H5 ⟨t, w8, w9, rfl, s5, hTt⟩
     refine ⟨t, _, _, _, _, rfl, s4.trans s5, ?_⟩
     rw [show mk n (part1 R r c ts I (a + 1) 0) = mk n (part1 R r c ts I a m) from mk_congr fun i j _ _ => by rw [<- part1_end har, pkc.len]]
     exact hTt
   ·rintro σ H3 ⟨t, v6, v7, v8, v9, rfl, s3, hTt⟩
    refine ⟨_, rfl, q t H3 _ (s12.trans s3) ?_ okF hlF⟩
    rw [show mk n (putF R r c ts I) = mk n (part1 R r c ts I m 0) from mk_congr fun i j _ _ => by rw [<- part1_all, pkr.len]]
    exact hTt
end
end My
namespace My
open PySem L2
theorem bt_verr : bootBuiltins "ValueError" = some (Value.type "ValueError") := by decide +kernel
structure Kn (K : PySem.W.Frag) (C c0 c1 c2 c3 c4 c5 c6 c7 c8 cP cQ : Addr) (b : Bool) : Prop where
 x : XCls K C
 any : PySem.W.kitAny K (.ref C) [.ref c0, .ref c1, .ref c2, .ref c3, .ref c4, .ref c5, .ref c6, .ref c7, .ref c8] = some false
 v : PySem.W.kitOne K (.ref C) (.type "ValueError") = some true
 p : PySem.W.kitOne K (.ref C) (.ref cP) = some b
 q : PySem.W.kitOne K (.ref C) (.ref cQ) = some (!b)
structure Cl (mg : Str -> Option Value) (c0 c1 c2 c3 c4 c5 c6 c7 c8 cP cQ cS : Addr) : Prop where
 m0 : mg "NoCell" = some (.ref c0)
 m1 : mg "NoFigure" = some (.ref c1)
 m2 : mg "NoRow" = some (.ref c2)
 m3 : mg "NoText" = some (.ref c3)
 m4 : mg "NoThing" = some (.ref c4)
 m5 : mg "NotWhole" = some (.ref c5)
 m6 : mg "TooGreat" = some (.ref c6)
 m7 : mg "TooMany" = some (.ref c7)
 m8 : mg "Twice" = some (.ref c8)
 mP : mg "NoPart" = some (.ref cP)
 mQ : mg "NoSquare" = some (.ref cQ)
 mS : mg "SquareError" = some (.ref cS)
noncomputable def PrZ (H : Hp) (q : Addr) (zr zc : List Int) : Prop := ∃ a b : Addr, H q = some (.tup [.ref a, .ref b]) /\ H a = some (.tup (zr.map V.int)) /\ H b = some (.tup (zc.map V.int))
theorem PrZ.same {H H' : Hp} {q : Addr} {zr zc : List Int} (x : PrZ H q zr zc) (s : Same H H') : PrZ H' q zr zc :=
 let ⟨a, b, h1, h2, h3⟩ := x
 ⟨a, b, s _ _ h1, s _ _ h2, s _ _ h3⟩
inductive SpToldI (vs : List V) (H : Hp) (Q : VK) : Prop where
 | mk (g q gi : Addr) (n m : Nat) (R I : List (List Int)) (zr zc : List Int) (_ : vs = [.ref g, .ref q, .ref gi]) (_ : TG H g R) (_ : OkRows n R) (_ : R.length = n) (_ : n <= 6) (_ : PrZ H q zr zc) (_ : TG H gi I) (_ : OkRows m I) (_ : I.length = m) (_ : (isPt n R zr zc = false -> ∀ H', Same H H' -> Q (.str (Str.ofString "part")) H')) (_ : (isPt n R zr zc = true -> m ≠ zr.length -> ∀ H', Same H H' -> Q (.str (Str.ofString "square")) H')) (_ : (isPt n R zr zc = true -> m = zr.length -> ∀ t H' R', Same H H' -> TG H' t R' -> OkRows n R' -> R'.length = n -> Q (.ref t) H')) : SpToldI vs H Q
noncomputable def spTold : Sp := fun vs H Q _ => SpToldI vs H Q
section
variable {P : Program} {w : World} {K : PySem.W.Frag} {mg : Str -> Option Value} {base : Heap} {c0 c1 c2 c3 c4 c5 c6 c7 c8 cP cQ cS : Addr}
theorem scTold : FnScope ["_law_square_here", "_law_pair_here", "_law_inner", "_law_found", "e", "_law_odd"] ["_law_square_here", "_law_pair_here", "_law_inner"] (defScope sTold) := ⟨rfl, rfl, rfl, by decide +kernel, rfl, by decide +kernel, by decide +kernel⟩
theorem ok_told {f fI : Addr} {fd dI : FuncData} (F : Fun K "_law_told" "_law_told" sTold f fd) (T : Blt mg) (M : Cl mg c0 c1 c2 c3 c4 c5 c6 c7 c8 cP cQ cS) (DI : Dfn K mg "put_in" sPutIn ["square", "rows", "columns", "inner"] fI dI)
  (GI : FnOk P w K mg base (CX1 P w) 3 fI dI ["square", "rows", "columns", "inner"] (spPutIn cP cQ)) (eP : PySem.W.exmOne K (.ref cP) (.ref cS) = some true) (eQ : PySem.W.exmOne K (.ref cQ) (.ref cS) = some true)
  (kP : Kn K cP c0 c1 c2 c3 c4 c5 c6 c7 c8 cP cQ true) (kQ : Kn K cQ c0 c1 c2 c3 c4 c5 c6 c7 c8 cP cQ false) :
  FnOk P w K mg base CX0 4 f fd ["_law_square_here", "_law_pair_here", "_law_inner"] spTold := by
 refine F.ok scTold (fun vs H Q E h => ?_) (fun cdv A outer s H vs Q E hr h => ?_)
 ·obtain ⟨_, _, _, _, _, _, _, _, _, rfl, _⟩ := h
  rfl
 ·obtain ⟨g, q, gi, n, m, R, I, zr, zc, rfl, hT, ok, hRl, h6, hq, hI, okI, hIl, k1, k2, k3⟩ := h
  refine' ⟨_, pss_cons (ps_set (i := 3) scTold.nd rfl (Or.inl rfl) pe_str) (pss_cons (ps_try rfl rfl (fun _ _ _ => pss_one (ps_set (i := 3) scTold.nd rfl (Or.inl rfl) (pe_callX GI hr rfl DI.m DI.F.kp DI.b .nil passX (pa_cons (pv 0) (pa_cons (pe_ix (ix_tupK K) (pv 1) pe_int (fun _ _ => rfl)) (pa_cons (pe_ix (ix_tupK K) (pv 1) pe_int (fun _ _ => rfl)) (pa_cons (pv 2) pa_nil)))))))
   (ph_as (i := 4) scTold.nd rfl rfl rfl M.mS (fun e => pss_cons ?h0 (pss_one (ps_if ?h1 (pss_one ?h2) pss_nil))) ph_nil)) (pss_one (ps_ret (pv 3)))), ?rd⟩
  case h0 => exact ps_set (i := 5) scTold.nd rfl (Or.inl rfl) (pe_callB (call_isXT K) rfl T.isin bt_isin (pa_cons (pv 4) (pa_cons (pe_tup (pa_cons (pe_glob (v := .ref c0) rfl M.m0 rfl) (pa_cons (pe_glob (v := .ref c1) rfl M.m1 rfl) (pa_cons (pe_glob (v := .ref c2) rfl M.m2 rfl) (pa_cons (pe_glob (v := .ref c3) rfl M.m3 rfl) (pa_cons (pe_glob (v := .ref c4) rfl M.m4 rfl)
   (pa_cons (pe_glob (v := .ref c5) rfl M.m5 rfl) (pa_cons (pe_glob (v := .ref c6) rfl M.m6 rfl) (pa_cons (pe_glob (v := .ref c7) rfl M.m7 rfl) (pa_cons (pe_glob (v := .ref c8) rfl M.m8 rfl) pa_nil)))))))))) pa_nil)))
  case h1 => exact PW.pt (pw_and (pt_val (pe_callB (call_isX K) rfl T.isin bt_isin (pa_cons (pv 4) (pa_cons (pe_bltn (v := .ty "ValueError") rfl T.verr bt_verr rfl) pa_nil)))) (pw_and (pt_not (pt_val (pv 5))) (pw_and1 (pt_cmpR op_ne (pe_callB (call_isX K) rfl T.isin bt_isin (pa_cons (pv 4) (pa_cons (pe_glob (v := .ref cP) rfl M.mP rfl) pa_nil))) (pe_callB (call_isX K) rfl T.isin bt_isin (pa_cons (pv 4) (pa_cons (pe_glob (v := .ref cQ) rfl M.mQ rfl) pa_nil))) (nomark _)))))
  case h2 => exact ps_set (i := 3) scTold.nd rfl (Or.inl rfl) (pe_ix (ix_listK K) (pe_lst (pa_cons pe_str (pa_cons pe_str pa_nil))) (pe_callTy call_int1 rfl T.int bt_int (pa_cons (pe_callB (call_isX K) rfl T.isin bt_isin (pa_cons (pv 4) (pa_cons (pe_glob (v := .ref cP) rfl M.mP rfl) pa_nil))) pa_nil)) (fun _ _ => rfl))
  case rd =>
   obtain ⟨ra, ca, q1, q2, q3⟩ := id hq
   refine ⟨rfl, _, rfl, _, rfl, q, _, _, .ref ra, rfl, rfl, SqT.of q1, rfl, _, rfl, q, _, _, .ref ca, rfl, rfl, SqT.of q1, rfl, _, rfl, g, ra, ca, gi, n, m, R, I, zr, zc, rfl, hT, ok, hRl, h6, q2, q3, hI, okI, hIl, fun hp H1 s1 => ?_, fun hp hm H1 s1 => ?_, fun hp hm t H1 R' s1 hT' ok' hl' => ?_⟩
   ·refine ⟨true, eP, iteT ⟨cP, rfl, fun e he => ?_⟩⟩
    have s2 : Same H (upd H1 e (excO cP e)) := s1.trans (Same.new he)
    refine ⟨_, rfl, (show 9 <= sizeLine from small6 (by decide)), fun tp htp => ?_⟩
    have s3 := (Same.new (H := upd H1 e (excO cP e)) (o := .tup [V.ref c0, .ref c1, .ref c2, .ref c3, .ref c4, .ref c5, .ref c6, .ref c7, .ref c8]) htp)
    have he2 := s3 _ _ (upd_same (H := H1) (a := e) (o := excO cP e))
    refine ⟨e, cP, tp, _, false, rfl, he2, kP.x, upd_same, ⟨_, rfl, kP.any⟩, ?_⟩
    refine ⟨_, rfl, e, cP, _, _, true, rfl, he2, kP.x, rfl, kP.v, _, rfl, iteT ?_⟩
    refine ⟨_, rfl, _, rfl, iteT ?_⟩
    refine ⟨_, rfl, e, cP, _, _, true, rfl, he2, kP.x, rfl, kP.p, _, rfl, e, cP, _, _, false, rfl, he2, kP.x, rfl, kP.q, rfl, _, rfl, iteT ?_⟩
    refine ⟨(show 2 <= sizeLine from small6 (by decide)), fun l hl => ?_⟩
    have s4 := s3.trans (Same.new (o := .lst [V.str (Str.ofString "square"), V.str (Str.ofString "part")]) hl)
    have he4 := s4 _ _ (upd_same (H := H1) (a := e) (o := excO cP e))
    refine ⟨_, rfl, e, cP, _, _, true, rfl, he4, kP.x, rfl, kP.p, .inr ⟨true, rfl, ?_⟩⟩
    refine ⟨l, _, _, .str (Str.ofString "part"), rfl, rfl, SqL.of upd_same, rfl, ?_⟩
    exact ⟨_, rfl, k1 hp _ (s2.trans s4)⟩
   ·refine ⟨true, eQ, iteT ⟨cQ, rfl, fun e he => ?_⟩⟩
    have s2 : Same H (upd H1 e (excO cQ e)) := s1.trans (Same.new he)
    refine ⟨_, rfl, (show 9 <= sizeLine from small6 (by decide)), fun tp htp => ?_⟩
    have s3 := (Same.new (H := upd H1 e (excO cQ e)) (o := .tup [V.ref c0, .ref c1, .ref c2, .ref c3, .ref c4, .ref c5, .ref c6, .ref c7, .ref c8]) htp)
    have he2 := s3 _ _ (upd_same (H := H1) (a := e) (o := excO cQ e))
    refine ⟨e, cQ, tp, _, false, rfl, he2, kQ.x, upd_same, ⟨_, rfl, kQ.any⟩, ?_⟩
    refine ⟨_, rfl, e, cQ, _, _, true, rfl, he2, kQ.x, rfl, kQ.v, _, rfl, iteT ?_⟩
    refine ⟨_, rfl, _, rfl, iteT ?_⟩
    refine ⟨_, rfl, e, cQ, _, _, false, rfl, he2, kQ.x, rfl, kQ.p, _, rfl, e, cQ, _, _, true, rfl, he2, kQ.x, rfl, kQ.q, rfl, _, rfl, iteT ?_⟩
    refine ⟨(show 2 <= sizeLine from small6 (by decide)), fun l hl => ?_⟩
    have s4 := s3.trans (Same.new (o := .lst [V.str (Str.ofString "square"), V.str (Str.ofString "part")]) hl)
    have he4 := s4 _ _ (upd_same (H := H1) (a := e) (o := excO cQ e))
    refine ⟨_, rfl, e, cQ, _, _, false, rfl, he4, kQ.x, rfl, kQ.p, .inr ⟨false, rfl, ?_⟩⟩
    refine ⟨l, _, _, .str (Str.ofString "square"), rfl, rfl, SqL.of upd_same, rfl, ?_⟩
    exact ⟨_, rfl, k2 hp hm _ (s2.trans s4)⟩
   ·exact ⟨_, rfl, k3 hp hm t H1 R' s1 hT' ok' hl'⟩
end
end My
namespace L2
open PySem PySem.Spec PyProof.Rows
structure W (p : Prop) : Prop where
 h : p
section
variable {X : Cx} {es : List Expr} {te : TE} {t : TA} {p : Pos} {e : Expr}
theorem wa_nil : W (PA X [] tNil) := ⟨pa_nil⟩
theorem wa_b {a o b} (ha : W (PE X (.BinOp a o b p) te)) (hr : W (PA X es t)) : W (PA X (.BinOp a o b p :: es) (tCons te t)) := ⟨pa_b ha.h hr.h⟩
theorem we_tup {j} (h : W (PA X es t)) : W (PE X (.Tuple es j p) (tTup t)) := ⟨pe_tup h.h⟩
theorem we_int {i j} : W (PE X (.Constant (.int i) j p) (tC (.int i))) := ⟨pe_int⟩
end
end L2
namespace L2
open PySem PySem.Spec PyProof.Rows
section
variable {X : Cx} {es : List Expr} {t : TA} {p : Pos}
theorem wss_cons {st : Stmt} {rest : List Stmt} {u v : TS} (h1 : W (PS X st u)) (h2 : W (PSs X rest v)) : W (PSs X (st :: rest) (tSeq u v)) := ⟨pss_cons h1.h h2.h⟩
theorem wss_one {st : Stmt} {u : TS} (h1 : W (PS X st u)) : W (PSs X [st] u) := ⟨pss_one h1.h⟩
theorem ws_ifR {c e : Expr} {tc : TT} {te : TE} {p1 p2 : Pos} (hc : PT X c tc) (h : W (PE X e te)) : W (PS X (.If c [.Return (some e) p1] [] p2) (tIfS tc (tRet te) tNext)) := ⟨ps_if hc (pss_one (ps_ret h.h)) pss_nil⟩
theorem we_op {a b : Expr} {o : Operator} {r : R2} {ta tb : TE} (ho : OpR X (binaryOp o) r) (ha : W (PE X a ta)) (hb : W (PE X b tb)) : W (PE X (.BinOp a o b p) (tOp r ta tb)) := ⟨pe_op ho ha.h hb.h⟩
theorem wa_n {x : Str} {te : TE} (ha : W (PE X (.Name x p) te)) (hr : W (PA X es t)) : W (PA X (.Name x p :: es) (tCons te t)) := ⟨pa_n ha.h hr.h⟩
end
end L2
namespace My
open PySem L2
theorem fm_if (p : Nat -> Bool) (l : List Nat) : l.filterMap (fun j : Nat => if p j = true then some (V.int (j : Int)) else none) = (toZ (l.filter p)).map V.int := by
 unfold toZ
 induction l with
 | nil => rfl
 | cons j l ih =>
  rw [List.filterMap_cons, List.filter_cons]
  cases h : p j with
  | true => rw [if_pos rfl, if_pos rfl, ih, List.map_cons, List.map_cons]
  | false => rw [if_neg Bool.false_ne_true, if_neg Bool.false_ne_true, ih]
theorem pow6' : ∀ j, j < 6 -> (2 : Int) ^ j <= 32 /\ 0 < (2 : Int) ^ j := by decide
inductive SpBitsI (vs : List V) (H : Hp) (Q : VK) : Prop where
 | mk (z : Int) (n : Nat) (_ : vs = [.int z, .int (n : Int)]) (_ : n <= 6) (_ : ∀ t H' (zs : List Int), Same H H' -> H' t = some (.tup (zs.map V.int)) -> zs.length <= 7 -> Q (.ref t) H') : SpBitsI vs H Q
noncomputable def spBits : Sp := fun vs H Q _ => SpBitsI vs H Q
inductive SpPairI (vs : List V) (H : Hp) (Q : VK) : Prop where
 | mk (g la : Addr) (z : Int) (n : Nat) (R : List (List Int)) (L : List (List Nat × List Nat)) (_ : vs = [.ref g, .ref la, .int z]) (_ : TG H g R) (_ : R.length = n) (_ : n <= 6) (_ : PtL H la L) (_ : (∀ p ∈ L, p.1.length <= 6 /\ p.2.length <= 6)) (_ : ∀ q zr zc H', Same H H' -> PrZ H' q zr zc -> Q (.ref q) H') : SpPairI vs H Q
noncomputable def spPair : Sp := fun vs H Q _ => SpPairI vs H Q
theorem cut_ints (zs : List Int) (lo hi : Option Int) : ∃ zs' : List Int, cutV (zs.map V.int) lo hi = zs'.map V.int /\ zs'.length <= zs.length := by
 refine ⟨(zs.drop (HT.sIx (zs.map V.int).length 0 lo)).take (HT.sIx (zs.map V.int).length (zs.map V.int).length hi - HT.sIx (zs.map V.int).length 0 lo), ?_, ?_⟩
 ·unfold cutV
  rw [<- List.map_drop, <- List.map_take]
 ·rw [List.length_take, List.length_drop]
  exact Om.k10 
theorem sliceW {K : PySem.W.Frag} {H : Hp} {a : Addr} {zs : List Int} {lo hi : Option Int} {Q : VK} (ha : H a = some (.tup (zs.map V.int))) (k : ∀ b H' (zs' : List Int), Same H H' -> H' b = some (.tup (zs'.map V.int)) -> zs'.length <= zs.length -> Q (.ref b) H') : rSlTW K (.ref a) lo hi H Q := by
 refine ⟨a, _, rfl, SqT.of ha, fun _ => k a H zs (Same.refl _) ha (Nat.le_refl _), fun _ p hp => ?_⟩
 obtain ⟨zs', e, hl⟩ := cut_ints zs lo hi
 rw [e]
 exact k p _ zs' (Same.new hp) upd_same hl
theorem sumW {K : PySem.W.Frag} {H : Hp} {a b : Addr} {zs ys : List Int} {Q : VK} (ha : H a = some (.tup (zs.map V.int))) (hb : H b = some (.tup (ys.map V.int))) (hz : zs.length <= 7) (hy : ys.length <= 7) (k : ∀ p H', Same H H' -> H' p = some (.tup ((zs ++ ys).map V.int)) -> Q (.ref p) H') : rSumT K (.ref a) (.ref b) H Q := by
 refine ⟨a, b, _, _, rfl, rfl, ha, hb, ?_, fun p H' s h => k p H' s ?_⟩
 ·rw [List.length_map, List.length_map]
  exact small6 (by exact Om.k9 hz hy)
 ·rw [List.map_append]
  exact h
theorem tNoPart_in {σ : St} {H : Hp} {f : Option Int -> Hp -> Prop} (h : f none H) : tNoPart σ H f := h
section
variable {P : Program} {w : World} {K : PySem.W.Frag} {mg : Str -> Option Value} {base : Heap}
theorem scBits : FnScope ["_law_cell", "_law_many"] ["_law_cell", "_law_many"] (defScope sBits) := ⟨rfl, rfl, rfl, by decide +kernel, rfl, by decide +kernel, by decide +kernel⟩
theorem ok_bits {f : Addr} {fd : FuncData} (F : Fun K "_law_bits" "_law_bits" sBits f fd) (T : Blt mg) : FnOk P w K mg base CX0 1 f fd ["_law_cell", "_law_many"] spBits := by
 refine F.ok scBits (fun vs H Q E h => ?_) (fun cdv A outer s H vs Q E hr h => ?_)
 ·obtain ⟨_, _, rfl, _⟩ := h
  rfl
 ·obtain ⟨z, n, rfl, h6, q⟩ := h
  refine' ⟨_, pss_one (ps_ret (pe_callTy (call_tupleK K) rfl T.tuple bt_tuple (pa_cons (pe_lc ["_law_k", "_law_cell"] [none, some 0] rfl rfl (pi_range1 rfl T.range (pa_cons (pv 1) pa_nil)) (fun _ _ _ _ _ => pg_c 0) (fun _ _ _ _ _ => pts_one (pt_cmpR op_eq (pe_op op_mod (pe_op op_fdiv (pv 1) (pe_op op_shl pe_int (pv 0))) pe_int) pe_int (nomark _))) (fun _ _ _ _ _ => pv 0)) pa_nil))), ?rd⟩
  case rd =>
   refine ⟨_, rfl, (n : Int), rfl, by exact Om.c2, by exact Om.c1 ‹_› rfl, fun lc hlc => ?_⟩
   rw [Int.toNat_natCast]
   refine comp_pure (fun j => if decide (V.int (z / (1 * 2 ^ ((j : Nat) : Int).toNat) % 2) = V.int 1) = true then some (V.int (j : Int)) else none) (fun σ => ∃ v, σ = [v, some (.int z)]) (wlk_range (n := n)) (by rw [rng_len]; exact small6 (by exact Om.b1 ‹_› rfl)) hlc (fun _ _ => trivial) ⟨none, rfl⟩ ?_ ?_
   ·rintro j x σ H' R' hj ⟨v, rfl⟩ sm kk
    obtain ⟨hjn, rfl⟩ := rng_get hj
    have kk' := fun v' => kk [v', some (.int z)] H' ⟨v', rfl⟩ (Same.refl _)
    have hp := pow6' j (by exact Om.a3 ‹_› ‹_›)
    refine ⟨_, rfl, _, rfl, _, _, rfl, rfl, ⟨by exact Om.c6, by exact Om.k8 h6 hjn, by decide⟩, _, _, rfl, rfl, ?_, _, _, rfl, rfl, (by show (0 : Int) < 2; decide), rfl, _, rfl, ?_⟩
    ·show (0 : Int) < 1 * 2 ^ ((j : Nat) : Int).toNat /\ 1 * 2 ^ ((j : Nat) : Int).toNat < (1073741824 : Int)
     rw [Int.toNat_natCast, Int.one_mul]
     exact Om.k7 hp
    refine ite2 (fun hd => ?_) (fun hd => ?_)
    ·have hd' : decide (V.int (z / (1 * 2 ^ ((j : Nat) : Int).toNat) % 2) = V.int 1) = true := hd
     rw [if_pos hd'] at kk'
     exact ⟨_, rfl, kk' _⟩
    ·have hd' : ¬ decide (V.int (z / (1 * 2 ^ ((j : Nat) : Int).toNat) % 2) = V.int 1) = true := hd
     rw [if_neg hd'] at kk'
     exact kk' _
   intro H3 s3 h3
   rw [rng_len, fm_if (fun j => decide (V.int (z / (1 * 2 ^ ((j : Nat) : Int).toNat) % 2) = V.int 1))] at h3
   refine ⟨lc, _, rfl, .inl ⟨SqL.of h3, fun tp htp => q tp _ _ (s3.trans (Same.new htp)) upd_same ?_⟩⟩
   rw [toZ_len]
   have := List.length_filter_le (fun j : Nat => decide (V.int (z / (1 * 2 ^ ((j : Nat) : Int).toNat) % 2) = V.int 1)) (List.range n)
   rw [List.length_range] at this
   exact Om.b3 ‹_› ‹_› rfl
theorem scPair : FnScope ["_law_square_here", "_law_some_here", "_law_cell", "_law_many", "_law_rows", "_law_columns", "_law_way"] ["_law_square_here", "_law_some_here", "_law_cell"] (defScope sPair) := ⟨rfl, rfl, rfl, by decide +kernel, rfl, by decide +kernel, by decide +kernel⟩
theorem ok_pair {f fB : Addr} {fd dB : FuncData} (F : Fun K "_law_pair" "_law_pair" sPair f fd) (T : Blt mg) (DB : Dfn K mg "_law_bits" sBits ["_law_cell", "_law_many"] fB dB) : FnOk P w K mg base CX0 2 f fd ["_law_square_here", "_law_some_here", "_law_cell"] spPair := by
 have GB : FnOk P w K mg base CX0 1 fB dB ["_law_cell", "_law_many"] spBits := ok_bits DB.F T
 refine F.ok scPair (fun vs H Q E h => ?_) (fun cdv A outer s H vs Q E hr h => ?_)
 ·obtain ⟨_, _, _, _, _, _, rfl, _⟩ := h
  rfl
 ·obtain ⟨g, la, z, n, R, L, rfl, hT, hRl, h6, hL, hL6, q⟩ := h
  have hu0 : ((A.deeper (PyProof.Rows.envOfC "_law_pair" (defScope sPair) s.heap.objs.size f cdv))).units < cLine := by have := hr.un; omega
  refine' ⟨_, W.h (wss_cons ?s0 (wss_cons ?c0 (wss_cons ?s1 (wss_cons ?s2 (wss_cons ?w0 (wss_cons ?w1 (wss_cons ?w2 (wss_cons ?w3 (wss_cons ?w4 (wss_cons ?w5 (wss_one ?w6))))))))))), ?rd⟩
  case s0 => exact ⟨ps_set (i := 3) scPair.nd rfl (Or.inl rfl) (pe_callB (call_lenK K) rfl T.len PySem.boot_len (pa_cons (pv 0) pa_nil))⟩
  case c0 => exact ⟨ps_if (PW.pt (pw_or (pt_cmpR op_eq (pe_op op_mod (pv 2) pe_int) pe_int (nomark _)) (pw_or1 (pt_cmpR (op_eqL hu0 K) (pv 1) (pe_lst pa_nil) (nomark _))))) (pss_one (ps_ret (pe_tup (pa_cons (pe_call GB hr rfl DB.m DB.F.kp DB.b .nil pass0 (pa_cons (pe_op op_fdiv (pv 2) pe_int) (pa_cons (pv 3) pa_nil))) (pa_cons (pe_call GB hr rfl DB.m DB.F.kp DB.b .nil pass0 (pa_cons (pe_op op_fdiv (pv 2) pe_int) (pa_cons (pv 3) pa_nil))) pa_nil))))) pss_nil⟩
  case s1 => exact ⟨ps_asg (pe_ix (ix_listK K) (pv 1) (pe_op op_mod (pe_op op_fdiv (pv 2) pe_int) (pe_callB (call_lenK K) rfl T.len PySem.boot_len (pa_cons (pv 1) pa_nil))) (fun _ _ => rfl)) (pg_tupK (n := 2) K rfl (pgs_cons (pg_name (i := 4) scPair.nd rfl (Or.inl rfl)) (pgs_cons (pg_name (i := 5) scPair.nd rfl (Or.inl rfl)) pgs_nil)))⟩
  case s2 => exact ⟨ps_set (i := 6) scPair.nd rfl (Or.inl rfl) (pe_op op_mod (pe_op op_fdiv (pv 2) pe_int) pe_int)⟩
  case w0 => exact ⟨ps_if (pt_cmpR op_eq (pv 6) pe_int (nomark _)) (pss_one (ps_ret (pe_tup (pa_cons (pe_revT K (pv 4) (po_some (pe_un un_neg pe_int))) (pa_cons (pv 5) pa_nil))))) pss_nil⟩
  case w1 => exact ⟨ps_if (pt_cmpR op_eq (pv 6) pe_int (nomark _)) (pss_one (ps_ret (pe_tup (pa_cons (pv 4) (pa_cons (pe_op (op_sumT K) (pe_slice (sl_tupW K) (pv 5) po_none (po_some (pe_un un_neg pe_int))) (pe_slice (sl_tupW K) (pv 5) po_none (po_some pe_int))) pa_nil))))) pss_nil⟩
  case w2 => exact ⟨ps_if (pt_cmpR op_eq (pv 6) pe_int (nomark _)) (pss_one (ps_ret (pe_tup (pa_cons (pe_op (op_sumT K) (pv 4) (pe_tup (pa_cons (pv 3) pa_nil))) (pa_cons (pe_op (op_sumT K) (pv 5) (pe_tup (pa_cons (pv 3) pa_nil))) pa_nil))))) pss_nil⟩
  case w3 => exact ⟨ps_if (pt_cmpR op_eq (pv 6) pe_int (nomark _)) (pss_one (ps_ret (pe_tup (pa_cons (pe_op (op_sumT K) (pe_slice (sl_tupW K) (pv 4) po_none (po_some (pe_un un_neg pe_int))) (W.h (we_tup (wa_b ⟨pe_op op_add (pv 3) (pe_op op_mod (pe_op op_fdiv (pv 2) pe_int) (pe_op op_pow pe_int pe_int))⟩ wa_nil)))) (pa_cons (pv 5) pa_nil))))) pss_nil⟩
  case w4 => exact ws_ifR (pt_cmpR op_eq (pv 6) pe_int (nomark _)) (we_tup (wa_b (we_op (op_sumT K) (we_tup (wa_b (we_op op_sub (we_op op_sub we_int we_int) ⟨pe_op op_mod (pe_op op_fdiv (pv 2) pe_int) (pe_op op_pow pe_int pe_int)⟩) wa_nil)) ⟨pe_slice (sl_tupW K) (pv 4) (po_some pe_int) po_none⟩) (wa_n ⟨pv 5⟩ wa_nil)))
  case w5 => exact ⟨ps_if (pt_cmpR op_eq (pv 6) pe_int (nomark _)) (pss_one (ps_ret (pe_tup (pa_cons (pe_slice (sl_tupW K) (pv 4) po_none (po_some (pe_un un_neg pe_int))) (pa_cons (pv 5) pa_nil))))) pss_nil⟩
  case w6 => exact ⟨ps_ret (pe_tup (pa_cons (pv 4) (pa_cons (pv 5) pa_nil)))⟩
  case rd =>
   obtain ⟨gs, hg, hG⟩ := id hT
   have hgl : (gs.map V.ref).length = n := by rw [List.length_map, hG.length, hRl]
   obtain ⟨ps, hps, hpl, hP⟩ := hL
   have fin : ∀ (H' : Hp) (a b : Addr) (zr zc : List Int), Same H H' -> H' a = some (.tup (zr.map V.int)) -> H' b = some (.tup (zc.map V.int)) -> 2 <= sizeLine /\ ∀ p, H' p = none -> Q (.ref p) (upd H' p (.tup [.ref a, .ref b])) := fun H' a b zr zc s ha hb =>
    ⟨small6 (by decide), fun p hp => q p zr zc _ (s.trans (Same.new hp)) ⟨a, b, upd_same, (Same.new hp) _ _ ha, (Same.new hp) _ _ hb⟩⟩
   refine ⟨_, rfl, g, _, rfl, .inr (SqT.of hg), ?_⟩
   rw [hgl]
   refine ⟨_, rfl, _, _, rfl, rfl, (by show (0 : Int) < 3; decide), rfl, _, rfl, ?_⟩
   refine ite2 (fun _ => iteT ?_) (fun _ => ?_)
   ·refine ⟨_, rfl, _, _, rfl, rfl, ⟨by decide, by decide⟩, _, rfl, z / 3, n, rfl, h6, fun t H2 zs s2 ht _ => ?_⟩
    refine ⟨_, rfl, _, _, rfl, rfl, ⟨by decide, by decide⟩, _, rfl, z / 192, n, rfl, h6, fun t' H3 zs' s3 ht' _ => ?_⟩
    exact fin H3 t t' zs zs' (s2.trans s3) (s3 _ _ ht) ht'
   refine ⟨_, rfl, Nat.zero_le _, fun le hle => ?_⟩
   have sB : Same H (upd H le (.lst [])) := Same.new hle
   have hleB : (upd H le (.lst [])) le = some (.lst []) := upd_same
   generalize upd H le (.lst []) = HB at sB hleB ⊢
   have hpsB := sB _ _ hps
   cases hps0 : ps with
   | nil =>
    rw [hps0] at hpsB
    refine ⟨la, le, [], [], rfl, rfl, SqL.of hpsB, SqL.of hleB, .inl ⟨rfl, rfl⟩, _, rfl, iteT ?_⟩
    refine ⟨_, rfl, _, _, rfl, rfl, ⟨by decide, by decide⟩, _, rfl, z / 3, n, rfl, h6, fun t H2 zs s2 ht _ => ?_⟩
    refine ⟨_, rfl, _, _, rfl, rfl, ⟨by decide, by decide⟩, _, rfl, z / 192, n, rfl, h6, fun t' H3 zs' s3 ht' _ => ?_⟩
    exact fin H3 t t' zs zs' (sB.trans (s2.trans s3)) (s3 _ _ ht) ht'
   | cons p0 ps' =>
   have hlen : 0 < ps.length := by rw [hps0]; exact Nat.succ_pos _
   refine ⟨la, le, (p0 :: ps').map V.ref, [], rfl, rfl, by rw [<- hps0]; exact SqL.of hpsB, SqL.of hleB, .inr (by simp), _, rfl, iteF ?_⟩
   rw [<- hps0] at *
   clear hps0
   obtain ⟨m, em, hm⟩ : ∃ m : Nat, z / 3 % (ps.length : Int) = (m : Int) /\ m < ps.length := ⟨(z / 3 % (ps.length : Int)).toNat, by have := Int.emod_nonneg (z / 3) (show (ps.length : Int) ≠ 0 by exact Om.k6 hpl hlen); exact Om.z1 ‹_›, by have := Int.emod_lt_of_pos (z / 3) (show (0 : Int) < ps.length by exact Om.k5 hpl hlen); have := Int.emod_nonneg (z / 3) (show (ps.length : Int) ≠ 0 by exact Om.k6 hpl hlen); omega⟩
   obtain ⟨⟨r, c⟩, hrc, hpr0⟩ := Paired.getL hP (List.getElem?_eq_getElem hm)
   have hrc6 : r.length <= 6 /\ c.length <= 6 := hL6 _ (List.mem_of_getElem? hrc)
   have hpr : IsPr HB ps[m] (r, c) := hpr0.up fun _ _ e => sB _ _ e
   generalize hpq : ps[m] = pq at hpr
   refine ⟨_, rfl, _, rfl, _, _, rfl, rfl, ⟨by decide, by decide⟩, _, rfl, la, _, rfl, .inl (SqL.of hpsB), ?_⟩
   rw [List.length_map]
   refine ⟨_, _, rfl, rfl, (by show (0 : Int) < (ps.length : Int); exact Om.k5 hpl hlen), ?_⟩
   refine ⟨la, _, _, .ref pq, rfl, rfl, SqL.of hpsB, ?_, ?_⟩
   ·show atI _ (z / 3 % (ps.length : Int)) = _
    rw [em]
    exact atI_of (by rw [List.getElem?_map, List.getElem?_eq_getElem hm, hpq]; rfl)
   obtain ⟨pa, pb, q1, q2, q3⟩ := hpr
   have q2 : HB pa = some (.tup ((toZ r).map V.int)) := q2
   have q3 : HB pb = some (.tup ((toZ c).map V.int)) := q3
   have lr : (toZ r).length <= 6 := by rw [toZ_len]; exact hrc6.1
   have lc : (toZ c).length <= 6 := by rw [toZ_len]; exact hrc6.2
   generalize toZ r = zr at q2 lr
   generalize toZ c = zc at q3 lc
   refine ⟨pq, _, rfl, SqT.of q1, rfl, _, _, rfl, _, _, rfl, rfl, ?_⟩
   refine ⟨_, rfl, _, _, rfl, rfl, ⟨by decide, by decide⟩, _, _, rfl, rfl, (by show (0 : Int) < 7; decide), ?_⟩
   refine ⟨_, rfl, rfl, _, rfl, ite2 (fun _ => ?_) (fun _ => ?_)⟩
   ·refine ⟨_, rfl, _, rfl, _, rfl, rfl, pa, _, rfl, SqT.of q2, fun p hp => ⟨_, rfl, ?_⟩⟩
    rw [<- List.map_reverse]
    exact fin _ p pb _ zc (sB.trans (Same.new hp)) upd_same ((Same.new hp) _ _ q3)
   refine ⟨_, rfl, rfl, _, rfl, ite2 (fun _ => ?_) (fun _ => ?_)⟩
   ·refine ⟨_, rfl, _, rfl, _, rfl, _, rfl, sliceW q3 fun b1 H1 z1 s1 g1 l1 => ?_⟩
    refine ⟨_, rfl, _, rfl, sliceW (s1 _ _ q3) fun b2 H2 z2 s2 g2 l2 => ?_⟩
    exact sumW (s2 _ _ g1) g2 (by exact Om.b3 ‹_› ‹_› rfl) (by exact Om.b3 ‹_› ‹_› rfl) fun p H3 s3 g3 => fin H3 pa p zr _ (sB.trans (s1.trans (s2.trans s3))) ((s1.trans (s2.trans s3)) _ _ q2) g3
   refine ⟨_, rfl, rfl, _, rfl, ite2 (fun _ => ?_) (fun _ => ?_)⟩
   ·refine ⟨_, rfl, _, rfl, (show 1 <= sizeLine from small6 (by decide)), fun p1 hp1 => ?_⟩
    have s1 : Same HB (upd HB p1 (.tup [.int (n : Int)])) := Same.new hp1
    refine sumW (ys := [(n : Int)]) (s1 _ _ q2) upd_same (by exact Om.b1 ‹_› rfl) (show 1 <= 7 by decide) fun p2 H2 s2 g2 => ?_
    refine ⟨_, rfl, _, rfl, (show 1 <= sizeLine from small6 (by decide)), fun p3 hp3 => ?_⟩
    have s3 : Same H2 (upd H2 p3 (.tup [.int (n : Int)])) := Same.new hp3
    have s13 := s1.trans (s2.trans s3)
    exact sumW (ys := [(n : Int)]) (s13 _ _ q3) upd_same (by exact Om.b1 ‹_› rfl) (show 1 <= 7 by decide) fun p4 H4 s4 g4 => fin H4 p2 p4 _ _ (sB.trans (s13.trans s4)) ((s3.trans s4) _ _ g2) g4
   refine ⟨_, rfl, rfl, _, rfl, ite2 (fun _ => ?_) (fun _ => ?_)⟩
   ·refine ⟨_, rfl, _, rfl, _, rfl, sliceW q2 fun b1 H1 z1 s1 g1 l1 => ?_⟩
    refine ⟨_, rfl, _, rfl, _, _, rfl, rfl, ⟨by decide, by decide⟩, _, _, rfl, rfl, ⟨by decide, by decide, by decide⟩, _, _, rfl, rfl, (by show (0 : Int) < 10 ^ 30; decide), _, _, rfl, rfl, (show 1 <= sizeLine from small6 (by decide)), fun p2 hp2 => ?_⟩
    generalize z / 9450 % 10 ^ Int.toNat 30 = wv at hp2 ⊢
    have s2 : Same H1 (upd H1 p2 (.tup [.int ((n : Int) + wv)])) := Same.new hp2
    have s12 := s1.trans s2
    exact sumW (ys := [(n : Int) + wv]) (s2 _ _ g1) upd_same (by exact Om.b3 ‹_› ‹_› rfl) (show 1 <= 7 by decide) fun p4 H4 s4 g4 => ⟨_, rfl, fin H4 p4 pb _ zc (sB.trans (s12.trans s4)) g4 ((s12.trans s4) _ _ q3)⟩
   refine ⟨_, rfl, rfl, _, rfl, ite2 (fun _ => ?_) (fun _ => ?_)⟩
   ·refine ⟨_, _, rfl, rfl, _, rfl, _, _, rfl, rfl, ⟨by decide, by decide⟩, _, _, rfl, rfl, ⟨by decide, by decide, by decide⟩, _, _, rfl, rfl, (by show (0 : Int) < 10 ^ 30; decide), _, _, rfl, rfl, (show 1 <= sizeLine from small6 (by decide)), fun p2 hp2 => ?_⟩
    generalize z / 9450 % 10 ^ Int.toNat 30 = wv at hp2 ⊢
    have s2 : Same HB (upd HB p2 (.tup [.int (0 - 1 - wv)])) := Same.new hp2
    have g2 : (upd HB p2 (.tup [.int (0 - 1 - wv)])) p2 = some (.tup ([0 - 1 - wv].map V.int)) := upd_same
    refine ⟨_, rfl, _, rfl, ?_⟩
    refine tNoPart_in ?_
    refine sliceW (s2 _ _ q2) fun b1 H2 z1 s1 g1 l1 => ?_
    have s12 := s2.trans s1
    exact sumW (zs := [0 - 1 - wv]) (s1 _ _ g2) g1 (show 1 <= 7 by decide) (by exact Om.b3 ‹_› ‹_› rfl) fun p4 H4 s4 g4 => ⟨_, rfl, fin H4 p4 pb _ zc (sB.trans (s12.trans s4)) g4 ((s12.trans s4) _ _ q3)⟩
   refine ⟨_, rfl, rfl, _, rfl, ite2 (fun _ => ?_) (fun _ => ?_)⟩
   ·refine ⟨_, rfl, _, rfl, _, rfl, sliceW q2 fun b1 H1 z1 s1 g1 l1 => ⟨_, rfl, ?_⟩⟩
    exact fin H1 b1 pb _ zc (sB.trans s1) g1 (s1 _ _ q3)
   ·exact ⟨_, rfl, _, rfl, fin HB pa pb zr zc sB q2 q3⟩
end
end My
namespace My
open PySem L2
theorem ints_inj : ∀ {l m : List Int}, l.map V.int = m.map V.int -> l = m
 | [], [], _ => rfl
 | [], _ :: _, h => by cases h
 | _ :: _, [], h => by cases h
 | x :: l, y :: m, h => by
  rw [List.map_cons, List.map_cons, List.cons.injEq, V.int.injEq] at h
  rw [h.1, ints_inj h.2]
theorem Paired.memL {α β : Type} {F : α -> β -> Prop} : ∀ {l₁ : List α} {l₂ : List β}, Paired F l₁ l₂ -> ∀ {x}, x ∈ l₁ -> ∃ y ∈ l₂, F x y
 | _, _, .cons r t, x, h => by
  rcases List.mem_cons.mp h with rfl | h
  ·exact ⟨_, List.mem_cons_self, r⟩
  ·obtain ⟨y, hy, f⟩ := Paired.memL t h
   exact ⟨y, List.mem_cons_of_mem _ hy, f⟩
theorem Paired.memR {α β : Type} {F : α -> β -> Prop} : ∀ {l₁ : List α} {l₂ : List β}, Paired F l₁ l₂ -> ∀ {y}, y ∈ l₂ -> ∃ x ∈ l₁, F x y
 | _, _, .cons r t, y, h => by
  rcases List.mem_cons.mp h with rfl | h
  ·exact ⟨_, List.mem_cons_self, r⟩
  ·obtain ⟨x, hx, f⟩ := Paired.memR t h
   exact ⟨x, List.mem_cons_of_mem _ hx, f⟩
theorem prz_uniq {H : Hp} {q : Addr} {zr zc zr' zc' : List Int} (x : PrZ H q zr zc) (y : PrZ H q zr' zc') : zr = zr' /\ zc = zc' := by
 obtain ⟨a, b, h1, h2, h3⟩ := x
 obtain ⟨a', b', g1, g2, g3⟩ := y
 rw [h1] at g1
 cases g1
 rw [h2] at g2
 rw [h3] at g3
 rw [Option.some.injEq, HO.tup.injEq] at g2 g3
 exact ⟨ints_inj g2, ints_inj g3⟩
section
variable {K : PySem.W.Frag}
theorem eqd_pair {H : Hp} {p q : Addr} {zr zc zr' zc' : List Int} (x : PrZ H p zr zc) (y : PrZ H q zr' zc') : EqD K H 2 (.ref p) (.ref q) (decide (zr = zr') && decide (zc = zc')) := by
 obtain ⟨a, b, h1, h2, h3⟩ := x
 obtain ⟨a', b', g1, g2, g3⟩ := y
 refine (EqD.tups (d := 1) (e := fun j => if j = 0 then decide (zr = zr') else decide (zc = zc')) (SqT.of h1) (SqT.of g1) (fun j u v e1 e2 => ?_)).cast ?_
 ·rcases j with _ | _ | j
  ·cases e1
   cases e2
   exact (eqd_tup (SqT.of h2) (SqT.of g2) (map_ints_flat _) (map_ints_flat _)).cast (eqVs_ints _ _)
  ·cases e1
   cases e2
   exact (eqd_tup (SqT.of h3) (SqT.of g3) (map_ints_flat _) (map_ints_flat _)).cast (eqVs_ints _ _)
  ·cases e1
 ·show (decide (2 = 2) && (List.range 2).all fun j => decide (j < 2) && if j = 0 then decide (zr = zr') else decide (zc = zc')) = _
  cases decide (zr = zr') <;> cases decide (zc = zc') <;> rfl
open Classical in
noncomputable def hit (H : Hp) (zr zc : List Int) (p : Addr) : Bool := decide (PrZ H p zr zc)
open Classical in
theorem hit_iff {H : Hp} {zr zc : List Int} {p : Addr} : hit H zr zc p = true ↔ PrZ H p zr zc := by
 unfold hit
 exact decide_eq_true_iff
theorem pairs_in {H : Hp} {q : Addr} {zr zc : List Int} {ps : List Addr} {L : List (List Nat × List Nat)} (hP : Paired (IsPr H) ps L) (hq : PrZ H q zr zc) : (∀ p ∈ ps, EqD K H 2 (.ref p) (.ref q) (hit H zr zc p)) /\ (ps.any (hit H zr zc) = true ↔ ∃ rc ∈ L, toZ rc.1 = zr /\ toZ rc.2 = zc) := by
 constructor
 ·intro p hp
  obtain ⟨rc, _, h⟩ := Paired.memL hP hp
  refine (eqd_pair (K := K) (show PrZ H p (toZ rc.1) (toZ rc.2) from h) hq).cast ?_
  rw [Bool.eq_iff_iff, Bool.and_eq_true, decide_eq_true_eq, decide_eq_true_eq, hit_iff]
  constructor
  ·rintro ⟨e1, e2⟩
   rw [<- e1, <- e2]
   exact h
  ·intro z
   exact prz_uniq (show PrZ H p (toZ rc.1) (toZ rc.2) from h) z
 ·rw [List.any_eq_true]
  constructor
  ·rintro ⟨p, hp, e⟩
   obtain ⟨rc, hrc, h⟩ := Paired.memL hP hp
   rw [hit_iff] at e
   exact ⟨rc, hrc, prz_uniq (show PrZ H p (toZ rc.1) (toZ rc.2) from h) e⟩
  ·rintro ⟨rc, hrc, e1, e2⟩
   obtain ⟨p, hp, h⟩ := Paired.memR hP hrc
   refine ⟨p, hp, ?_⟩
   rw [hit_iff, <- e1, <- e2]
   exact h
end
theorem any_pt {n : Nat} (h6 : n <= 6) {R : List (List Int)} {zr zc : List Int} : (∃ rc ∈ dueL n R, toZ rc.1 = zr /\ toZ rc.2 = zc) ↔ isPt n R zr zc = true := by
 constructor
 ·rintro ⟨rc, h, rfl, rfl⟩
  exact due_pt h6 h
 ·intro h
  obtain ⟨k, r, c, e1, e2, _, _, _, _, _, _, hm⟩ := pt_due h6 h
  exact ⟨(r, c), hm, e1.symm, e2.symm⟩
inductive SpLawI (K : PySem.W.Frag) (vs : List V) (H : Hp) (Q : VK) : Prop where
 | mk (a : Addr) (ns : List Int) (_ : vs = [.ref a]) (_ : SqL K H a (ns.map V.int)) (_ : ns.length <= 63) (_ : ∀ H', Q (.bl true) H') : SpLawI K vs H Q
noncomputable def spLaw (K : PySem.W.Frag) : Sp := fun vs H Q _ => SpLawI K vs H Q
structure Defs (P : Program) (w : World) (K : PySem.W.Frag) (mg : Str -> Option Value) (base : Heap) (fC fD fO fS fM fU fQ fA fV : Addr) (dC dD dO dS dM dU dQ dA dV : FuncData) : Prop where
 T : Blt mg
 C : Dfn K mg "_law_cell_at" sCell ["_law_script", "_law_k"] fC dC
 D : Dfn K mg "_law_digits" sDigits ["_law_cell", "_law_many", "_law_most"] fD dD
 O : Dfn K mg "_law_row_on" sRowOn ["_law_above", "_law_row", "_law_size", "_law_turns"] fO dO
 S : Dfn K mg "_law_square" sSquare ["_law_cell", "_law_size"] fS dS
 M : Dfn K mg "_law_made" sMade ["_law_script"] fM dM
 U : Dfn K mg "_law_due" sDue ["_law_square_here"] fU dU
 Q : Dfn K mg "_law_is_square" sIsSquare ["_law_found", "_law_size"] fQ dQ
 A : Dfn K mg "_law_pair" sPair ["_law_square_here", "_law_some_here", "_law_cell"] fA dA
 V : Dfn K mg "_law_told" sTold ["_law_square_here", "_law_pair_here", "_law_inner"] fV dV
 GM : FnOk P w K mg base CX0 11 fM dM ["_law_script"] (spMade K)
 GU : FnOk P w K mg base CX0 11 fU dU ["_law_square_here"] spDue
 GQ : FnOk P w K mg base CX0 11 fQ dQ ["_law_found", "_law_size"] spIsSquare
 GA : FnOk P w K mg base CX0 11 fA dA ["_law_square_here", "_law_some_here", "_law_cell"] spPair
 GV : FnOk P w K mg base CX0 11 fV dV ["_law_square_here", "_law_pair_here", "_law_inner"] spTold
section
variable {P : Program} {w : World} {K : PySem.W.Frag} {mg : Str -> Option Value} {base : Heap} {fC fD fO fS fM fU fQ fA fV : Addr} {dC dD dO dS dM dU dQ dA dV : FuncData}
theorem scLaw : FnScope ["_law_script", "_law_square_here", "_law_some_here", "_law_cell", "_law_pair_here", "_law_inner", "_law_found"] ["_law_script"] (defScope sLaw) := ⟨rfl, rfl, rfl, by decide +kernel, rfl, by decide +kernel, by decide +kernel⟩
theorem ok_law {f : Addr} {fd : FuncData} (F : Fun K "law" "law" sLaw f fd) (Z : Defs P w K mg base fC fD fO fS fM fU fQ fA fV dC dD dO dS dM dU dQ dA dV) : FnOk P w K mg base CX0 12 f fd ["_law_script"] (spLaw K) := by
 have T := Z.T
 have GC : FnOk P w K mg base CX0 11 fC dC ["_law_script", "_law_k"] (spCell K) := (ok_cell Z.C.F T).mono (by decide)
 have GS : FnOk P w K mg base CX0 11 fS dS ["_law_cell", "_law_size"] spSquare := (ok_square Z.S.F T Z.D Z.O).mono (by decide)
 have GM := Z.GM
 have GU := Z.GU
 have GQ := Z.GQ
 have GA := Z.GA
 have GV := Z.GV
 refine F.ok scLaw (fun vs H Q E h => ?_) (fun cdv A outer s H vs Q E hr h => ?_)
 ·obtain ⟨_, _, rfl, _⟩ := h
  rfl
 ·obtain ⟨a, ns, rfl, hS, hnl, k⟩ := h
  have hu : ((A.deeper (PyProof.Rows.envOfC "law" (defScope sLaw) s.heap.objs.size f cdv))).units + 1 + 2 < cLine := by have := hr.un; omega
  refine' ⟨_, pss_cons ?s0 (pss_cons ?s1 (pss_cons (ps_for PassesOwn.never rfl ?i (pg_name (i := 3) scLaw.nd rfl (Or.inl rfl)) (pss_cons ?b0 (pss_cons ?b1 (pss_cons ?b2 (pss_one (ps_if ?c0 (pss_one (ps_if ?d0 (pss_one (ps_ret pe_bl)) pss_nil)) (pss_one (ps_if ?c1 (pss_one (ps_if ?d1 (pss_one (ps_ret pe_bl)) pss_nil)) (pss_one (ps_if ?c2 (pss_one (ps_ret pe_bl)) pss_nil)))))))))) (pss_one (ps_ret pe_bl)))), ?rd⟩
  case s0 => exact ps_set (i := 1) scLaw.nd rfl (Or.inl rfl) (pe_call GM hr rfl Z.M.m Z.M.F.kp Z.M.b .nil pass0 (pa_cons (pv 0) pa_nil))
  case s1 => exact ps_set (i := 2) scLaw.nd rfl (Or.inl rfl) (pe_call GU hr rfl Z.U.m Z.U.F.kp Z.U.b .nil pass0 (pa_cons (pv 1) pa_nil))
  case i => exact pi_list (pe_op op_cat (pe_lst (pa_cons (pe_call GC hr rfl Z.C.m Z.C.F.kp Z.C.b .nil pass0 (pa_cons (pv 0) (pa_cons pe_int pa_nil))) (pa_cons pe_int (pa_cons pe_int pa_nil)))) (pe_slice sl_list (pv 0) (po_some pe_int) (po_some pe_int)))
  case b0 => exact ps_set (i := 4) scLaw.nd rfl (Or.inl rfl) (pe_call GA hr rfl Z.A.m Z.A.F.kp Z.A.b .nil pass0 (pa_cons (pv 1) (pa_cons (pv 2) (pa_cons (pv 3) pa_nil))))
  case b1 => exact ps_set (i := 5) scLaw.nd rfl (Or.inl rfl) (pe_call GS hr rfl Z.S.m Z.S.F.kp Z.S.b .nil pass0 (pa_cons (pe_op op_fdiv (pv 3) pe_int) (pa_cons (pe_op op_add pe_int (pe_op op_mod (pe_op op_fdiv (pv 3) pe_int) pe_int)) pa_nil)))
  case b2 => exact ps_set (i := 6) scLaw.nd rfl (Or.inl rfl) (pe_call GV hr rfl Z.V.m Z.V.F.kp Z.V.b .nil pass0 (pa_cons (pv 1) (pa_cons (pv 4) (pa_cons (pv 5) pa_nil))))
  case c0 => exact pt_cmpR (op_notInR (d := 2) hu K) (pv 4) (pv 2) rfl
  case d0 => exact pt_cmpR op_ne (pv 6) pe_str (nomark _)
  case c1 => exact pt_cmpR op_ne (pe_callB (call_lenK K) rfl T.len PySem.boot_len (pa_cons (pe_ix (ix_tupK K) (pv 4) pe_int (fun _ _ => rfl)) pa_nil)) (pe_callB (call_lenK K) rfl T.len PySem.boot_len (pa_cons (pv 5) pa_nil)) (nomark _)
  case d1 => exact pt_cmpR op_ne (pv 6) pe_str (nomark _)
  case c2 => exact pt_not (pt_val (pe_call GQ hr rfl Z.Q.m Z.Q.F.kp Z.Q.b .nil pass0 (pa_cons (pv 6) (pa_cons (pe_callB (call_lenK K) rfl T.len PySem.boot_len (pa_cons (pv 1) pa_nil)) pa_nil))))
  case rd =>
   refine ⟨_, rfl, a, ns, rfl, hS, fun g n R H1 s1 hT ok hRl h6 => ?_⟩
   refine ⟨_, rfl, g, n, R, rfl, hT, ok, hRl, h6, fun ld H2 hld sA hD => ?_⟩
   have sAA := s1.trans sA
   refine ⟨_, rfl, a, ns, 1, rfl, sAA.seq hS, fun z1 => ⟨(show 3 <= sizeLine from small6 (by decide)), fun l1 hl1 => ?_⟩⟩
   have s2 : Same H2 (upd H2 l1 (.lst [.int z1, .int 1, .int 2])) := Same.new hl1
   refine ⟨_, rfl, 8, rfl, 27, rfl, a, _, rfl, s2.seq (sAA.seq hS), fun l2 hl2 => ?_⟩
   have hcl : (cutV (ns.map V.int) (some 8) (some 27)).length <= 63 := Nat.le_trans (cutV_length _ _ _) (by rw [List.length_map]; exact hnl)
   have hci : ∀ x ∈ cutV (ns.map V.int) (some 8) (some 27), ∃ z : Int, x = .int z := fun x hx => by
    obtain ⟨z, _, e⟩ := List.mem_map.mp (cut_mem hx)
    exact ⟨z, e.symm⟩
   generalize cutV (ns.map V.int) (some 8) (some 27) = cs at hcl hci hl2 ⊢
   have s3 : Same (upd H2 l1 (.lst [.int z1, .int 1, .int 2])) (upd (upd H2 l1 (.lst [.int z1, .int 1, .int 2])) l2 (.lst cs)) := Same.new hl2
   refine ⟨l1, l2, _, _, rfl, rfl, s3 _ _ upd_same, upd_same, small6 (by show 3 + cs.length <= 1000; exact Om.k4 hcl), fun l3 hl3 => ?_⟩
   have s4 := (s2.trans s3).trans (Same.new (o := .lst ([V.int z1, .int 1, .int 2] ++ cs)) hl3)
   have hl4 : (upd (upd (upd H2 l1 (.lst [.int z1, .int 1, .int 2])) l2 (.lst cs)) l3 (.lst ([V.int z1, .int 1, .int 2] ++ cs))) l3 = some (.lst ([V.int z1, .int 1, .int 2] ++ cs)) := upd_same
   generalize upd (upd (upd H2 l1 (.lst [.int z1, .int 1, .int 2])) l2 (.lst cs)) l3 (.lst ([V.int z1, .int 1, .int 2] ++ cs)) = H4 at s4 hl4 ⊢
   have hci' : ∀ x ∈ [V.int z1, .int 1, .int 2] ++ cs, ∃ z : Int, x = .int z := fun x hx => by
    rcases List.mem_append.mp hx with hx | hx
    ·rcases List.mem_cons.mp hx with rfl | hx
     ·exact ⟨_, rfl⟩
     ·rcases List.mem_cons.mp hx with rfl | hx
      ·exact ⟨_, rfl⟩
      ·exact ⟨_, List.mem_singleton.mp hx⟩
    ·exact hci x hx
   generalize [V.int z1, .int 1, .int 2] ++ cs = xs at hl4 hci' ⊢
   have hT4 := (hT.same sA).same s4
   have hD4 := hD.same s4
   refine ⟨l3, rfl, ⟨_, SqL.of hl4⟩, for_list (xs := xs) (fun i σ H5 => ∃ (v3 v4 v5 v6 : Option V), σ = [some (.ref a), some (.ref g), some (.ref ld), v3, v4, v5, v6] /\ Same H4 H5) ⟨none, none, none, none, rfl, Same.refl _⟩ (fun i σ H5 _ zz0 => by obtain ⟨_, _, _, _, _, s5⟩ := zz0; exact SqL.of (s5 _ _ hl4)) ?_ (fun σ H5 _ => k H5)⟩
   rintro i x σ H5 hx ⟨v3, v4, v5, v6, rfl, s5⟩
   obtain ⟨z, rfl⟩ := hci' x (List.mem_of_getElem? hx)
   have hL6 : ∀ p ∈ dueL n R, p.1.length <= 6 /\ p.2.length <= 6 := fun p hp => by
    obtain ⟨kk, h2, hn, hr', hc', _⟩ := due_mem hp
    have p1 := rp_pick h6 (by exact Om.b2 ‹_› ‹_› rfl) hr'
    have p2 := rp_pick h6 (by exact Om.b2 ‹_› ‹_› rfl) hc'
    rw [p1.len, p2.len]
    exact ⟨by exact Om.b2 ‹_› ‹_› rfl, by exact Om.b2 ‹_› ‹_› rfl⟩
   refine ⟨_, rfl, _, rfl, _, rfl, g, ld, z, n, R, _, rfl, hT4.same s5, hRl, h6, hD4.same s5, hL6, fun q zr zc HA s6 hq => ?_⟩
   refine ⟨_, rfl, _, _, rfl, rfl, ⟨by decide, by decide⟩, _, rfl, _, _, rfl, rfl, ⟨by decide, by decide⟩, _, _, rfl, rfl, (by show (0 : Int) < 3; decide), _, _, rfl, rfl, ?_⟩
   obtain ⟨m, hz, hm1, hm3⟩ : ∃ m : Nat, 1 + z / 5 % 3 = (m : Int) /\ 1 <= m /\ m <= 3 := ⟨(1 + z / 5 % 3).toNat, by exact Om.k3 , by exact Om.k2 , by exact Om.k1 ⟩
   refine ⟨z / 7, m, (by show [V.int (z / 7), V.int (1 + z / 5 % 3)] = _; rw [hz]), by assumption, by exact Om.b1 ‹_› rfl, fun gi HC I sC GI' okI hIl => ?_⟩
   have hTI := GridT.tg GI'
   have s56 := s5.trans (s6.trans sC)
   have hqC := hq.same sC
   have stay : ∀ (v6' : Option V) (HD : Hp), Same HC HD -> ∃ (v3 v4 v5 v6 : Option V), [some (V.ref a), some (.ref g), some (.ref ld), some (.int z), some (.ref q), some (.ref gi), v6'] = [some (.ref a), some (.ref g), some (.ref ld), v3, v4, v5, v6] /\ Same H4 HD := fun v6' HD sD => ⟨_, _, _, _, rfl, s56.trans sD⟩
   have tell : ∀ HD : Hp, Same HC HD -> ∃ (ps : List Addr), HD ld = some (.lst (ps.map V.ref)) /\ (∀ p ∈ ps, EqD K HD 2 (.ref p) (.ref q) (hit HD zr zc p)) /\ ps.any (hit HD zr zc) = isPt n R zr zc := fun HD sD => by
    obtain ⟨ps, h1, _, h3⟩ := hD4.same (s56.trans sD)
    obtain ⟨e1, e2⟩ := pairs_in (K := K) h3 (hqC.same sD)
    refine ⟨ps, h1, e1, ?_⟩
    rw [Bool.eq_iff_iff, e2]
    exact any_pt h6
   have hTC := hT4.same s56
   refine ⟨_, rfl, _, rfl, _, rfl, g, q, gi, n, m, R, I, zr, zc, rfl, hTC, ok, hRl, h6, hqC, hTI, okI, hIl, fun hp HD sD => ?_, fun hp hm HD sD => ?_, fun hp hm t HD R' sD hT' ok' hl' => ?_⟩
   ·obtain ⟨ps, t1, t2, t3⟩ := tell HD sD
    refine ⟨_, rfl, _, rfl, ld, ps, _, rfl, SqL.of t1, t2, _, rfl, ?_⟩
    rw [t3, hp]
    refine iteT ⟨_, rfl, rfl, _, rfl, ?_⟩
    rw [decide_eq_true rfl]
    exact iteF (stay _ HD sD)
   ·obtain ⟨ps, t1, t2, t3⟩ := tell HD sD
    refine ⟨_, rfl, _, rfl, ld, ps, _, rfl, SqL.of t1, t2, _, rfl, ?_⟩
    rw [t3, hp]
    refine iteF ?_
    obtain ⟨pa, pb, q1, q2, q3⟩ := hqC.same sD
    obtain ⟨is, hi, hIs⟩ := hTI.same sD
    refine ⟨_, rfl, q, _, _, .ref pa, rfl, rfl, SqT.of q1, rfl, pa, _, rfl, .inr (SqT.of q2), _, rfl, gi, _, rfl, .inr (SqT.of hi), rfl, _, rfl, ?_⟩
    rw [List.length_map, List.length_map, hIs.length, hIl, show decide (V.int (zr.length : Int) = V.int (m : Int)) = false from decide_eq_false fun e => hm (by rw [V.int.injEq] at e; exact Om.k0 hIl e)]
    refine iteT ⟨_, rfl, rfl, _, rfl, ?_⟩
    rw [decide_eq_true rfl]
    exact iteF (stay _ HD sD)
   ·obtain ⟨ps, t1, t2, t3⟩ := tell HD sD
    refine ⟨_, rfl, _, rfl, ld, ps, _, rfl, SqL.of t1, t2, _, rfl, ?_⟩
    rw [t3, hp]
    refine iteF ?_
    obtain ⟨pa, pb, q1, q2, q3⟩ := hqC.same sD
    obtain ⟨is, hi, hIs⟩ := hTI.same sD
    refine ⟨_, rfl, q, _, _, .ref pa, rfl, rfl, SqT.of q1, rfl, pa, _, rfl, .inr (SqT.of q2), _, rfl, gi, _, rfl, .inr (SqT.of hi), rfl, _, rfl, ?_⟩
    rw [List.length_map, List.length_map, hIs.length, hIl, show decide (V.int (zr.length : Int) = V.int (m : Int)) = true from decide_eq_true (by rw [hm])]
    refine iteF ?_
    obtain ⟨gs, hg, hG⟩ := hTC.same sD
    refine ⟨_, rfl, _, rfl, g, _, rfl, .inr (SqT.of hg), ?_⟩
    rw [show (gs.map V.ref).length = n by rw [List.length_map, hG.length, hRl]]
    exact ⟨t, n, R', rfl, hT', ok', hl', by exact Om.b1 ‹_› rfl, fun HE sE => ⟨_, rfl, iteF (stay _ HE (sD.trans sE))⟩⟩
end
end My
namespace My
open PySem L2
theorem exL {α : Type} {us : List α} {k : Nat} (h : us.length = k + 1) : ∃ a t, us = a :: t /\ t.length = k := by
 cases us with
 | nil => cases h
 | cons a t => exact ⟨a, t, rfl, Nat.succ.inj h⟩
theorem bnd1 {K : PySem.W.Frag} {x qual : Str} {st : Stmt} {f : Addr} {fd : FuncData} {ps : List Str} (hl : ps.length = 1) (F : Fun K x qual st f fd) (h : ∀ (kV doc pm : Value) (an : Option Addr) (cdv ct : Value) (a0 : Value), bindArgs (PySem.W.fnOf x qual (defArgs st) (defBody st) (defScope st) .none kV doc pm an cdv ct) ⟨[a0], []⟩ = pure (ps.zip [a0])) : Binds K fd ps [] :=
 F.binds fun kV doc pm an cdv ct us hu => by obtain ⟨a0, us, rfl, h0⟩ := exL (hu.trans hl); obtain rfl := List.eq_nil_of_length_eq_zero h0; exact h kV doc pm an cdv ct a0
theorem bnd2 {K : PySem.W.Frag} {x qual : Str} {st : Stmt} {f : Addr} {fd : FuncData} {ps : List Str} (hl : ps.length = 2) (F : Fun K x qual st f fd) (h : ∀ (kV doc pm : Value) (an : Option Addr) (cdv ct : Value) (a0 a1 : Value), bindArgs (PySem.W.fnOf x qual (defArgs st) (defBody st) (defScope st) .none kV doc pm an cdv ct) ⟨[a0, a1], []⟩ = pure (ps.zip [a0, a1])) : Binds K fd ps [] :=
 F.binds fun kV doc pm an cdv ct us hu => by obtain ⟨a0, us, rfl, h0⟩ := exL (hu.trans hl); obtain ⟨a1, us, rfl, h1⟩ := exL h0; obtain rfl := List.eq_nil_of_length_eq_zero h1; exact h kV doc pm an cdv ct a0 a1
theorem bnd3 {K : PySem.W.Frag} {x qual : Str} {st : Stmt} {f : Addr} {fd : FuncData} {ps : List Str} (hl : ps.length = 3) (F : Fun K x qual st f fd) (h : ∀ (kV doc pm : Value) (an : Option Addr) (cdv ct : Value) (a0 a1 a2 : Value), bindArgs (PySem.W.fnOf x qual (defArgs st) (defBody st) (defScope st) .none kV doc pm an cdv ct) ⟨[a0, a1, a2], []⟩ = pure (ps.zip [a0, a1, a2])) : Binds K fd ps [] :=
 F.binds fun kV doc pm an cdv ct us hu => by obtain ⟨a0, us, rfl, h0⟩ := exL (hu.trans hl); obtain ⟨a1, us, rfl, h1⟩ := exL h0; obtain ⟨a2, us, rfl, h2⟩ := exL h1; obtain rfl := List.eq_nil_of_length_eq_zero h2; exact h kV doc pm an cdv ct a0 a1 a2
theorem bnd4 {K : PySem.W.Frag} {x qual : Str} {st : Stmt} {f : Addr} {fd : FuncData} {ps : List Str} (hl : ps.length = 4) (F : Fun K x qual st f fd) (h : ∀ (kV doc pm : Value) (an : Option Addr) (cdv ct : Value) (a0 a1 a2 a3 : Value), bindArgs (PySem.W.fnOf x qual (defArgs st) (defBody st) (defScope st) .none kV doc pm an cdv ct) ⟨[a0, a1, a2, a3], []⟩ = pure (ps.zip [a0, a1, a2, a3])) : Binds K fd ps [] :=
 F.binds fun kV doc pm an cdv ct us hu => by obtain ⟨a0, us, rfl, h0⟩ := exL (hu.trans hl); obtain ⟨a1, us, rfl, h1⟩ := exL h0; obtain ⟨a2, us, rfl, h2⟩ := exL h1; obtain ⟨a3, us, rfl, h3⟩ := exL h2; obtain rfl := List.eq_nil_of_length_eq_zero h3; exact h kV doc pm an cdv ct a0 a1 a2 a3
set_option maxHeartbeats 2000000 in
theorem all_mk {l : PySem.W.OpenLaw} {w : World} {K : PySem.W.Frag} {h : Heap} {mg : Str -> Option Value} {fa fWe fTI fIK fIP fPI fC fD fO fS fT fR fX fMd fH fM fU fWh fQ fB fA fV fLaw : Addr} {g0 g1 g2 g3 g4 g5 g6 g7 g8 gP gQ gS : Addr} (X : K.In h) (G : h.Ns mainGlobals mg) (hfa : mg "law" = some (.ref fa))
  {odWe anWe odTI anTI odIK anIK odIP anIP odPI anPI odC anC odD anD odO anO odS anS odT anT odR anR odX anX odMd anMd odH anH odM anM odU anU odWh anWh odQ anQ odB anB odA anA odV anV odLaw anLaw : Option Addr} {slWe slTI slIK slIP slPI slC slD slO slS slT slR slX slMd slH slM slU slWh slQ slB slA slV slLaw : Array (Option Value)}
  {ocWe kVWe dcWe pmWe cdWe ctWe ocTI kVTI dcTI pmTI cdTI ctTI ocIK kVIK dcIK pmIK cdIK ctIK ocIP kVIP dcIP pmIP cdIP ctIP ocPI kVPI dcPI pmPI cdPI ctPI ocC kVC dcC pmC cdC ctC ocD kVD dcD pmD cdD ctD ocO kVO dcO pmO cdO ctO ocS kVS dcS pmS cdS ctS ocT kVT dcT pmT cdT ctT ocR kVR dcR pmR cdR ctR ocX kVX dcX pmX cdX ctX ocMd kVMd dcMd pmMd cdMd ctMd ocH kVH dcH pmH cdH ctH ocM kVM dcM pmM cdM ctM ocU kVU dcU pmU cdU ctU ocWh kVWh dcWh pmWh cdWh ctWh ocQ kVQ dcQ pmQ cdQ ctQ ocB kVB dcB pmB cdB ctB ocA kVA dcA pmA cdA ctA ocV kVV dcV pmV cdV ctV ocLaw kVLaw dcLaw pmLaw cdLaw ctLaw : Value}
  (aWe : PySem.W.nsIn K mainGlobals "with_entry" = some (some (.ref fWe))) (lWe : K.lookup fWe = some ⟨ocWe, odWe, .func (PySem.W.fnOf "with_entry" "with_entry" (defArgs sWith) (defBody sWith) (defScope sWith) .none kVWe dcWe pmWe anWe cdWe ctWe), slWe⟩) (cWe : PySem.W.codeIn K cdWe "with_entry" = true) (kWe : PySem.W.keepIn K (.ref fWe) = true)
  (aTI : PySem.W.nsIn K mainGlobals "things_in" = some (some (.ref fTI))) (lTI : K.lookup fTI = some ⟨ocTI, odTI, .func (PySem.W.fnOf "things_in" "things_in" (defArgs sThingsIn) (defBody sThingsIn) (defScope sThingsIn) .none kVTI dcTI pmTI anTI cdTI ctTI), slTI⟩) (cTI : PySem.W.codeIn K cdTI "things_in" = true) (kTI : PySem.W.keepIn K (.ref fTI) = true)
  (aIK : PySem.W.nsIn K mainGlobals "is_pick" = some (some (.ref fIK))) (lIK : K.lookup fIK = some ⟨ocIK, odIK, .func (PySem.W.fnOf "is_pick" "is_pick" (defArgs sIsPick) (defBody sIsPick) (defScope sIsPick) .none kVIK dcIK pmIK anIK cdIK ctIK), slIK⟩) (cIK : PySem.W.codeIn K cdIK "is_pick" = true) (kIK : PySem.W.keepIn K (.ref fIK) = true)
  (aIP : PySem.W.nsIn K mainGlobals "is_part" = some (some (.ref fIP))) (lIP : K.lookup fIP = some ⟨ocIP, odIP, .func (PySem.W.fnOf "is_part" "is_part" (defArgs sIsPart) (defBody sIsPart) (defScope sIsPart) .none kVIP dcIP pmIP anIP cdIP ctIP), slIP⟩) (cIP : PySem.W.codeIn K cdIP "is_part" = true) (kIP : PySem.W.keepIn K (.ref fIP) = true)
  (aPI : PySem.W.nsIn K mainGlobals "put_in" = some (some (.ref fPI))) (lPI : K.lookup fPI = some ⟨ocPI, odPI, .func (PySem.W.fnOf "put_in" "put_in" (defArgs sPutIn) (defBody sPutIn) (defScope sPutIn) .none kVPI dcPI pmPI anPI cdPI ctPI), slPI⟩) (cPI : PySem.W.codeIn K cdPI "put_in" = true) (kPI : PySem.W.keepIn K (.ref fPI) = true)
  (aC : PySem.W.nsIn K mainGlobals "_law_cell_at" = some (some (.ref fC))) (lC : K.lookup fC = some ⟨ocC, odC, .func (PySem.W.fnOf "_law_cell_at" "_law_cell_at" (defArgs sCell) (defBody sCell) (defScope sCell) .none kVC dcC pmC anC cdC ctC), slC⟩) (cC : PySem.W.codeIn K cdC "_law_cell_at" = true) (kC : PySem.W.keepIn K (.ref fC) = true)
  (aD : PySem.W.nsIn K mainGlobals "_law_digits" = some (some (.ref fD))) (lD : K.lookup fD = some ⟨ocD, odD, .func (PySem.W.fnOf "_law_digits" "_law_digits" (defArgs sDigits) (defBody sDigits) (defScope sDigits) .none kVD dcD pmD anD cdD ctD), slD⟩) (cD : PySem.W.codeIn K cdD "_law_digits" = true) (kD : PySem.W.keepIn K (.ref fD) = true)
  (aO : PySem.W.nsIn K mainGlobals "_law_row_on" = some (some (.ref fO))) (lO : K.lookup fO = some ⟨ocO, odO, .func (PySem.W.fnOf "_law_row_on" "_law_row_on" (defArgs sRowOn) (defBody sRowOn) (defScope sRowOn) .none kVO dcO pmO anO cdO ctO), slO⟩) (cO : PySem.W.codeIn K cdO "_law_row_on" = true) (kO : PySem.W.keepIn K (.ref fO) = true)
  (aS : PySem.W.nsIn K mainGlobals "_law_square" = some (some (.ref fS))) (lS : K.lookup fS = some ⟨ocS, odS, .func (PySem.W.fnOf "_law_square" "_law_square" (defArgs sSquare) (defBody sSquare) (defScope sSquare) .none kVS dcS pmS anS cdS ctS), slS⟩) (cS : PySem.W.codeIn K cdS "_law_square" = true) (kS : PySem.W.keepIn K (.ref fS) = true)
  (aT : PySem.W.nsIn K mainGlobals "_law_table" = some (some (.ref fT))) (lT : K.lookup fT = some ⟨ocT, odT, .func (PySem.W.fnOf "_law_table" "_law_table" (defArgs sTable) (defBody sTable) (defScope sTable) .none kVT dcT pmT anT cdT ctT), slT⟩) (cT : PySem.W.codeIn K cdT "_law_table" = true) (kT : PySem.W.keepIn K (.ref fT) = true)
  (aR : PySem.W.nsIn K mainGlobals "_law_ring" = some (some (.ref fR))) (lR : K.lookup fR = some ⟨ocR, odR, .func (PySem.W.fnOf "_law_ring" "_law_ring" (defArgs sRing) (defBody sRing) (defScope sRing) .none kVR dcR pmR anR cdR ctR), slR⟩) (cR : PySem.W.codeIn K cdR "_law_ring" = true) (kR : PySem.W.keepIn K (.ref fR) = true)
  (aX : PySem.W.nsIn K mainGlobals "_law_exchanged" = some (some (.ref fX))) (lX : K.lookup fX = some ⟨ocX, odX, .func (PySem.W.fnOf "_law_exchanged" "_law_exchanged" (defArgs sExchanged) (defBody sExchanged) (defScope sExchanged) .none kVX dcX pmX anX cdX ctX), slX⟩) (cX : PySem.W.codeIn K cdX "_law_exchanged" = true) (kX : PySem.W.keepIn K (.ref fX) = true)
  (aMd : PySem.W.nsIn K mainGlobals "_law_made" = some (some (.ref fMd))) (lMd : K.lookup fMd = some ⟨ocMd, odMd, .func (PySem.W.fnOf "_law_made" "_law_made" (defArgs sMade) (defBody sMade) (defScope sMade) .none kVMd dcMd pmMd anMd cdMd ctMd), slMd⟩) (cMd : PySem.W.codeIn K cdMd "_law_made" = true) (kMd : PySem.W.keepIn K (.ref fMd) = true)
  (aH : PySem.W.nsIn K mainGlobals "_law_things" = some (some (.ref fH))) (lH : K.lookup fH = some ⟨ocH, odH, .func (PySem.W.fnOf "_law_things" "_law_things" (defArgs sThings) (defBody sThings) (defScope sThings) .none kVH dcH pmH anH cdH ctH), slH⟩) (cH : PySem.W.codeIn K cdH "_law_things" = true) (kH : PySem.W.keepIn K (.ref fH) = true)
  (aM : PySem.W.nsIn K mainGlobals "_law_some" = some (some (.ref fM))) (lM : K.lookup fM = some ⟨ocM, odM, .func (PySem.W.fnOf "_law_some" "_law_some" (defArgs sSome) (defBody sSome) (defScope sSome) .none kVM dcM pmM anM cdM ctM), slM⟩) (cM : PySem.W.codeIn K cdM "_law_some" = true) (kM : PySem.W.keepIn K (.ref fM) = true)
  (aU : PySem.W.nsIn K mainGlobals "_law_due" = some (some (.ref fU))) (lU : K.lookup fU = some ⟨ocU, odU, .func (PySem.W.fnOf "_law_due" "_law_due" (defArgs sDue) (defBody sDue) (defScope sDue) .none kVU dcU pmU anU cdU ctU), slU⟩) (cU : PySem.W.codeIn K cdU "_law_due" = true) (kU : PySem.W.keepIn K (.ref fU) = true)
  (aWh : PySem.W.nsIn K mainGlobals "_law_whole" = some (some (.ref fWh))) (lWh : K.lookup fWh = some ⟨ocWh, odWh, .func (PySem.W.fnOf "_law_whole" "_law_whole" (defArgs sWhole) (defBody sWhole) (defScope sWhole) .none kVWh dcWh pmWh anWh cdWh ctWh), slWh⟩) (cWh : PySem.W.codeIn K cdWh "_law_whole" = true) (kWh : PySem.W.keepIn K (.ref fWh) = true)
  (aQ : PySem.W.nsIn K mainGlobals "_law_is_square" = some (some (.ref fQ))) (lQ : K.lookup fQ = some ⟨ocQ, odQ, .func (PySem.W.fnOf "_law_is_square" "_law_is_square" (defArgs sIsSquare) (defBody sIsSquare) (defScope sIsSquare) .none kVQ dcQ pmQ anQ cdQ ctQ), slQ⟩) (cQ : PySem.W.codeIn K cdQ "_law_is_square" = true) (kQ : PySem.W.keepIn K (.ref fQ) = true)
  (aB : PySem.W.nsIn K mainGlobals "_law_bits" = some (some (.ref fB))) (lB : K.lookup fB = some ⟨ocB, odB, .func (PySem.W.fnOf "_law_bits" "_law_bits" (defArgs sBits) (defBody sBits) (defScope sBits) .none kVB dcB pmB anB cdB ctB), slB⟩) (cB : PySem.W.codeIn K cdB "_law_bits" = true) (kB : PySem.W.keepIn K (.ref fB) = true)
  (aA : PySem.W.nsIn K mainGlobals "_law_pair" = some (some (.ref fA))) (lA : K.lookup fA = some ⟨ocA, odA, .func (PySem.W.fnOf "_law_pair" "_law_pair" (defArgs sPair) (defBody sPair) (defScope sPair) .none kVA dcA pmA anA cdA ctA), slA⟩) (cA : PySem.W.codeIn K cdA "_law_pair" = true) (kA : PySem.W.keepIn K (.ref fA) = true)
  (aV : PySem.W.nsIn K mainGlobals "_law_told" = some (some (.ref fV))) (lV : K.lookup fV = some ⟨ocV, odV, .func (PySem.W.fnOf "_law_told" "_law_told" (defArgs sTold) (defBody sTold) (defScope sTold) .none kVV dcV pmV anV cdV ctV), slV⟩) (cV : PySem.W.codeIn K cdV "_law_told" = true) (kV : PySem.W.keepIn K (.ref fV) = true)
  (aLaw : PySem.W.nsIn K mainGlobals "law" = some (some (.ref fLaw))) (lLaw : K.lookup fLaw = some ⟨ocLaw, odLaw, .func (PySem.W.fnOf "law" "law" (defArgs sLaw) (defBody sLaw) (defScope sLaw) .none kVLaw dcLaw pmLaw anLaw cdLaw ctLaw), slLaw⟩) (cLaw : PySem.W.codeIn K cdLaw "law" = true) (kLaw : PySem.W.keepIn K (.ref fLaw) = true)
  (z0 : PySem.W.nsIn K mainGlobals "len" = some none)
  (z1 : PySem.W.nsIn K mainGlobals "range" = some none)
  (z2 : PySem.W.nsIn K mainGlobals "tuple" = some none)
  (z3 : PySem.W.nsIn K mainGlobals "list" = some none)
  (z4 : PySem.W.nsIn K mainGlobals "isinstance" = some none)
  (z5 : PySem.W.nsIn K mainGlobals "int" = some none)
  (z6 : PySem.W.nsIn K mainGlobals "bool" = some none)
  (z7 : PySem.W.nsIn K mainGlobals "sorted" = some none)
  (z8 : PySem.W.nsIn K mainGlobals "set" = some none)
  (z9 : PySem.W.nsIn K mainGlobals "zip" = some none)
  (z10 : PySem.W.nsIn K mainGlobals "ValueError" = some none)
  (mg0 : PySem.W.nsIn K mainGlobals "NoCell" = some (some (.ref g0)))
  (mg1 : PySem.W.nsIn K mainGlobals "NoFigure" = some (some (.ref g1)))
  (mg2 : PySem.W.nsIn K mainGlobals "NoRow" = some (some (.ref g2)))
  (mg3 : PySem.W.nsIn K mainGlobals "NoText" = some (some (.ref g3)))
  (mg4 : PySem.W.nsIn K mainGlobals "NoThing" = some (some (.ref g4)))
  (mg5 : PySem.W.nsIn K mainGlobals "NotWhole" = some (some (.ref g5)))
  (mg6 : PySem.W.nsIn K mainGlobals "TooGreat" = some (some (.ref g6)))
  (mg7 : PySem.W.nsIn K mainGlobals "TooMany" = some (some (.ref g7)))
  (mg8 : PySem.W.nsIn K mainGlobals "Twice" = some (some (.ref g8)))
  (mgP : PySem.W.nsIn K mainGlobals "NoPart" = some (some (.ref gP)))
  (mgQ : PySem.W.nsIn K mainGlobals "NoSquare" = some (some (.ref gQ)))
  (mgS : PySem.W.nsIn K mainGlobals "SquareError" = some (some (.ref gS)))
  (xP : PySem.W.excIn K gP bmV "ValueError.__new__" = true)
  (xQ : PySem.W.excIn K gQ bmV "ValueError.__new__" = true)
  (eP : PySem.W.exmOne K (.ref gP) (.ref gS) = some true)
  (eQ : PySem.W.exmOne K (.ref gQ) (.ref gS) = some true)
  (yP : Kn K gP g0 g1 g2 g3 g4 g5 g6 g7 g8 gP gQ true)
  (yQ : Kn K gQ g0 g1 g2 g3 g4 g5 g6 g7 g8 gP gQ false) :
  ∃ fd : FuncData, (∀ (s : Shared) (v : Value), BindsTo s fd ⟨[v], []⟩ [("_law_script", v)]) /\ ∀ base : Heap, K.In base -> base.Ns mainGlobals mg -> FnOk l.prog w K mg base CX0 12 fa fd ["_law_script"] (spLaw K) := by
 have e := hfa.symm.trans (PySem.W.mg_of X G aLaw)
 cases e
 have T : Blt mg := ⟨PySem.W.mg_none_of X G z0, PySem.W.mg_none_of X G z1, PySem.W.mg_none_of X G z2, PySem.W.mg_none_of X G z3, PySem.W.mg_none_of X G z4, PySem.W.mg_none_of X G z5, PySem.W.mg_none_of X G z6, PySem.W.mg_none_of X G z7, PySem.W.mg_none_of X G z8, PySem.W.mg_none_of X G z9, PySem.W.mg_none_of X G z10⟩
 have FWe := fun_mk (st := sWith) lWe cWe kWe
 have FTI := fun_mk (st := sThingsIn) lTI cTI kTI
 have FIK := fun_mk (st := sIsPick) lIK cIK kIK
 have FIP := fun_mk (st := sIsPart) lIP cIP kIP
 have FPI := fun_mk (st := sPutIn) lPI cPI kPI
 have FC := fun_mk (st := sCell) lC cC kC
 have FD := fun_mk (st := sDigits) lD cD kD
 have FO := fun_mk (st := sRowOn) lO cO kO
 have FS := fun_mk (st := sSquare) lS cS kS
 have FT := fun_mk (st := sTable) lT cT kT
 have FR := fun_mk (st := sRing) lR cR kR
 have FX := fun_mk (st := sExchanged) lX cX kX
 have FMd := fun_mk (st := sMade) lMd cMd kMd
 have FH := fun_mk (st := sThings) lH cH kH
 have FM := fun_mk (st := sSome) lM cM kM
 have FU := fun_mk (st := sDue) lU cU kU
 have FWh := fun_mk (st := sWhole) lWh cWh kWh
 have FQ := fun_mk (st := sIsSquare) lQ cQ kQ
 have FB := fun_mk (st := sBits) lB cB kB
 have FA := fun_mk (st := sPair) lA cA kA
 have FV := fun_mk (st := sTold) lV cV kV
 have FLaw := fun_mk (st := sLaw) lLaw cLaw kLaw
 have DWe : Dfn K mg "with_entry" sWith ["begun", "row", "column", "entry"] fWe _ := ⟨FWe, bnd4 (ps := ["begun", "row", "column", "entry"]) rfl FWe fun _ _ _ _ _ _ _ _ _ _ => rfl, PySem.W.mg_of X G aWe⟩
 have DTI : Dfn K mg "things_in" sThingsIn ["square", "rows", "columns"] fTI _ := ⟨FTI, bnd3 (ps := ["square", "rows", "columns"]) rfl FTI fun _ _ _ _ _ _ _ _ _ => rfl, PySem.W.mg_of X G aTI⟩
 have DIK : Dfn K mg "is_pick" sIsPick ["numbers", "size"] fIK _ := ⟨FIK, bnd2 (ps := ["numbers", "size"]) rfl FIK fun _ _ _ _ _ _ _ _ => rfl, PySem.W.mg_of X G aIK⟩
 have DIP : Dfn K mg "is_part" sIsPart ["square", "rows", "columns"] fIP _ := ⟨FIP, bnd3 (ps := ["square", "rows", "columns"]) rfl FIP fun _ _ _ _ _ _ _ _ _ => rfl, PySem.W.mg_of X G aIP⟩
 have DPI : Dfn K mg "put_in" sPutIn ["square", "rows", "columns", "inner"] fPI _ := ⟨FPI, bnd4 (ps := ["square", "rows", "columns", "inner"]) rfl FPI fun _ _ _ _ _ _ _ _ _ _ => rfl, PySem.W.mg_of X G aPI⟩
 have DC : Dfn K mg "_law_cell_at" sCell ["_law_script", "_law_k"] fC _ := ⟨FC, bnd2 (ps := ["_law_script", "_law_k"]) rfl FC fun _ _ _ _ _ _ _ _ => rfl, PySem.W.mg_of X G aC⟩
 have DD : Dfn K mg "_law_digits" sDigits ["_law_cell", "_law_many", "_law_most"] fD _ := ⟨FD, bnd3 (ps := ["_law_cell", "_law_many", "_law_most"]) rfl FD fun _ _ _ _ _ _ _ _ _ => rfl, PySem.W.mg_of X G aD⟩
 have DO : Dfn K mg "_law_row_on" sRowOn ["_law_above", "_law_row", "_law_size", "_law_turns"] fO _ := ⟨FO, bnd4 (ps := ["_law_above", "_law_row", "_law_size", "_law_turns"]) rfl FO fun _ _ _ _ _ _ _ _ _ _ => rfl, PySem.W.mg_of X G aO⟩
 have DS : Dfn K mg "_law_square" sSquare ["_law_cell", "_law_size"] fS _ := ⟨FS, bnd2 (ps := ["_law_cell", "_law_size"]) rfl FS fun _ _ _ _ _ _ _ _ => rfl, PySem.W.mg_of X G aS⟩
 have DT : Dfn K mg "_law_table" sTable ["_law_script"] fT _ := ⟨FT, bnd1 (ps := ["_law_script"]) rfl FT fun _ _ _ _ _ _ _ => rfl, PySem.W.mg_of X G aT⟩
 have DR : Dfn K mg "_law_ring" sRing ["_law_square_here", "_law_one", "_law_other", "_law_column"] fR _ := ⟨FR, bnd4 (ps := ["_law_square_here", "_law_one", "_law_other", "_law_column"]) rfl FR fun _ _ _ _ _ _ _ _ _ _ => rfl, PySem.W.mg_of X G aR⟩
 have DX : Dfn K mg "_law_exchanged" sExchanged ["_law_square_here", "_law_one", "_law_other", "_law_column"] fX _ := ⟨FX, bnd4 (ps := ["_law_square_here", "_law_one", "_law_other", "_law_column"]) rfl FX fun _ _ _ _ _ _ _ _ _ _ => rfl, PySem.W.mg_of X G aX⟩
 have DMd : Dfn K mg "_law_made" sMade ["_law_script"] fMd _ := ⟨FMd, bnd1 (ps := ["_law_script"]) rfl FMd fun _ _ _ _ _ _ _ => rfl, PySem.W.mg_of X G aMd⟩
 have DH : Dfn K mg "_law_things" sThings ["_law_square_here", "_law_rows", "_law_columns"] fH _ := ⟨FH, bnd3 (ps := ["_law_square_here", "_law_rows", "_law_columns"]) rfl FH fun _ _ _ _ _ _ _ _ _ => rfl, PySem.W.mg_of X G aH⟩
 have DM : Dfn K mg "_law_some" sSome ["_law_many", "_law_size"] fM _ := ⟨FM, bnd2 (ps := ["_law_many", "_law_size"]) rfl FM fun _ _ _ _ _ _ _ _ => rfl, PySem.W.mg_of X G aM⟩
 have DU : Dfn K mg "_law_due" sDue ["_law_square_here"] fU _ := ⟨FU, bnd1 (ps := ["_law_square_here"]) rfl FU fun _ _ _ _ _ _ _ => rfl, PySem.W.mg_of X G aU⟩
 have DWh : Dfn K mg "_law_whole" sWhole ["_law_found"] fWh _ := ⟨FWh, bnd1 (ps := ["_law_found"]) rfl FWh fun _ _ _ _ _ _ _ => rfl, PySem.W.mg_of X G aWh⟩
 have DQ : Dfn K mg "_law_is_square" sIsSquare ["_law_found", "_law_size"] fQ _ := ⟨FQ, bnd2 (ps := ["_law_found", "_law_size"]) rfl FQ fun _ _ _ _ _ _ _ _ => rfl, PySem.W.mg_of X G aQ⟩
 have DB : Dfn K mg "_law_bits" sBits ["_law_cell", "_law_many"] fB _ := ⟨FB, bnd2 (ps := ["_law_cell", "_law_many"]) rfl FB fun _ _ _ _ _ _ _ _ => rfl, PySem.W.mg_of X G aB⟩
 have DA : Dfn K mg "_law_pair" sPair ["_law_square_here", "_law_some_here", "_law_cell"] fA _ := ⟨FA, bnd3 (ps := ["_law_square_here", "_law_some_here", "_law_cell"]) rfl FA fun _ _ _ _ _ _ _ _ _ => rfl, PySem.W.mg_of X G aA⟩
 have DV : Dfn K mg "_law_told" sTold ["_law_square_here", "_law_pair_here", "_law_inner"] fV _ := ⟨FV, bnd3 (ps := ["_law_square_here", "_law_pair_here", "_law_inner"]) rfl FV fun _ _ _ _ _ _ _ _ _ => rfl, PySem.W.mg_of X G aV⟩
 exact ⟨PySem.W.fnOf "law" "law" (defArgs sLaw) (defBody sLaw) (defScope sLaw) .none kVLaw dcLaw pmLaw anLaw cdLaw ctLaw, fun s v => .of_eq rfl, fun base _ _ => ok_law FLaw (Defs.mk T DC DD DO DS DMd DU DQ DA DV ((ok_made FMd T DC DD DO DS DT DX DR).mono (by decide)) ((ok_due FU T DM DH).mono (by decide)) ((ok_isSquare FQ T DWh).mono (by decide)) ((ok_pair FA T DB).mono (by decide)) ((ok_told FV T ⟨PySem.W.mg_of X G mg0, PySem.W.mg_of X G mg1, PySem.W.mg_of X G mg2, PySem.W.mg_of X G mg3, PySem.W.mg_of X G mg4, PySem.W.mg_of X G mg5, PySem.W.mg_of X G mg6, PySem.W.mg_of X G mg7, PySem.W.mg_of X G mg8, PySem.W.mg_of X G mgP, PySem.W.mg_of X G mgQ, PySem.W.mg_of X G mgS⟩ DPI (ok_putIn FPI T DIP DIK DTI DWe (PySem.W.mg_of X G mgP) xP (PySem.W.mg_of X G mgQ) xQ) eP eQ yP yQ).mono (by decide)))⟩
theorem walk {l : PySem.W.OpenLaw} {q : Program} {loose : List Str} {XP : (Str -> Option Value) -> Heap -> Prop} {YP : World -> Heap -> Prop} {d : DefRec} {K : Params -> PySem.W.Frag} (hn : l.most = some 63) (hdf : d.params.defaults = [])
  (hY : ∀ (w : World) (h : Heap), YP w h -> (K w.params).In h)
  (F : ∀ (w : World) (mg : Str -> Option Value) (fa : Addr) (h : Heap), (K w.params).In h -> h.Ns mainGlobals mg -> mg d.name = some (.ref fa) ->
   ∃ fd : FuncData, (∀ (s : Shared) (u : Value), BindsTo s fd ⟨[u], []⟩ [("_law_script", u)]) /\ ∀ base : Heap, (K w.params).In base -> base.Ns mainGlobals mg -> FnOk l.prog w (K w.params) mg base CX0 12 fa fd ["_law_script"] (spLaw (K w.params))) :
  PySem.W.WalkO q loose XP YP l.row.toRowW d [] (fun f vs => PySem.call f vs) :=
 L2.walk_of (n := 63) (k := 12) (x := "_law_script") (CX := fun _ => CX0) (sp := fun w => spLaw (K w.params)) hn (by decide) hdf ⟨rfl, by decide, by decide⟩ hY F (fun _ _ a ns hl _ hS => ⟨a, ns, rfl, hS, hl, fun _ => rfl⟩) fun _ _ _ _ _ z => z
end My
open PySem PySem.W PyProof.Rows
set_option maxRecDepth 100000 in
set_option maxHeartbeats 0 in
theorem PySem.Challenge.cw_latinclose_k34_no_part_holds : PySem.Challenge.rw_latinclose_k34_no_part.Holds := by
 w_on; o_law; k_head; (case hw => w_witness2)
 k_fill
 refine My.walk (l := PySem.Challenge.rw_latinclose_k34_no_part) rfl rfl (fun w h Y => PySem.W.kIn_of Y) ?F
 case F =>
  intro w mg fa h KX G hmg
  refine' My.all_mk KX G hmg ?aWe ?lWe ?cWe ?kWe ?aTI ?lTI ?cTI ?kTI ?aIK ?lIK ?cIK ?kIK ?aIP ?lIP ?cIP ?kIP ?aPI ?lPI ?cPI ?kPI ?aC ?lC ?cC ?kC ?aD ?lD ?cD ?kD ?aO ?lO ?cO ?kO ?aS ?lS ?cS ?kS ?aT ?lT ?cT ?kT ?aR ?lR ?cR ?kR ?aX ?lX ?cX ?kX ?aMd ?lMd ?cMd ?kMd ?aH ?lH ?cH ?kH ?aM ?lM ?cM ?kM ?aU ?lU ?cU ?kU ?aWh ?lWh ?cWh ?kWh ?aQ ?lQ ?cQ ?kQ ?aB ?lB ?cB ?kB ?aA ?lA ?cA ?kA ?aV ?lV ?cV ?kV ?aLaw ?lLaw ?cLaw ?kLaw ?z0 ?z1 ?z2 ?z3 ?z4 ?z5 ?z6 ?z7 ?z8 ?z9 ?z10 ?mg0 ?mg1 ?mg2 ?mg3 ?mg4 ?mg5 ?mg6 ?mg7 ?mg8 ?mgP ?mgQ ?mgS ?xP ?xQ ?eP ?eQ ?yP ?yQ
  (case aWe => k_is)
  (case lWe => k_is)
  (case cWe => k_is)
  (case kWe => k_is)
  (case aTI => k_is)
  (case lTI => k_is)
  (case cTI => k_is)
  (case kTI => k_is)
  (case aIK => k_is)
  (case lIK => k_is)
  (case cIK => k_is)
  (case kIK => k_is)
  (case aIP => k_is)
  (case lIP => k_is)
  (case cIP => k_is)
  (case kIP => k_is)
  (case aPI => k_is)
  (case lPI => k_is)
  (case cPI => k_is)
  (case kPI => k_is)
  (case aC => k_is)
  (case lC => k_is)
  (case cC => k_is)
  (case kC => k_is)
  (case aD => k_is)
  (case lD => k_is)
  (case cD => k_is)
  (case kD => k_is)
  (case aO => k_is)
  (case lO => k_is)
  (case cO => k_is)
  (case kO => k_is)
  (case aS => k_is)
  (case lS => k_is)
  (case cS => k_is)
  (case kS => k_is)
  (case aT => k_is)
  (case lT => k_is)
  (case cT => k_is)
  (case kT => k_is)
  (case aR => k_is)
  (case lR => k_is)
  (case cR => k_is)
  (case kR => k_is)
  (case aX => k_is)
  (case lX => k_is)
  (case cX => k_is)
  (case kX => k_is)
  (case aMd => k_is)
  (case lMd => k_is)
  (case cMd => k_is)
  (case kMd => k_is)
  (case aH => k_is)
  (case lH => k_is)
  (case cH => k_is)
  (case kH => k_is)
  (case aM => k_is)
  (case lM => k_is)
  (case cM => k_is)
  (case kM => k_is)
  (case aU => k_is)
  (case lU => k_is)
  (case cU => k_is)
  (case kU => k_is)
  (case aWh => k_is)
  (case lWh => k_is)
  (case cWh => k_is)
  (case kWh => k_is)
  (case aQ => k_is)
  (case lQ => k_is)
  (case cQ => k_is)
  (case kQ => k_is)
  (case aB => k_is)
  (case lB => k_is)
  (case cB => k_is)
  (case kB => k_is)
  (case aA => k_is)
  (case lA => k_is)
  (case cA => k_is)
  (case kA => k_is)
  (case aV => k_is)
  (case lV => k_is)
  (case cV => k_is)
  (case kV => k_is)
  (case aLaw => k_is)
  (case lLaw => k_is)
  (case cLaw => k_is)
  (case kLaw => k_is)
  (case z0 => k_is)
  (case z1 => k_is)
  (case z2 => k_is)
  (case z3 => k_is)
  (case z4 => k_is)
  (case z5 => k_is)
  (case z6 => k_is)
  (case z7 => k_is)
  (case z8 => k_is)
  (case z9 => k_is)
  (case z10 => k_is)
  (case mg0 => k_is)
  (case mg1 => k_is)
  (case mg2 => k_is)
  (case mg3 => k_is)
  (case mg4 => k_is)
  (case mg5 => k_is)
  (case mg6 => k_is)
  (case mg7 => k_is)
  (case mg8 => k_is)
  (case mgP => k_is)
  (case mgQ => k_is)
  (case mgS => k_is)
  (case xP => k_exc)
  (case xQ => k_exc)
  (case eP => kts_exm)
  (case eQ => kts_exm)
  (case yP => exact ⟨⟨by k_is, by k_is, by k_is, by k_is, by k_is⟩, by kit_is, by kit_is, by kit_is, by kit_is⟩)
  (case yQ => exact ⟨⟨by k_is, by k_is, by k_is, by k_is, by k_is⟩, by kit_is, by kit_is, by kit_is, by kit_is⟩)
