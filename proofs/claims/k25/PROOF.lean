import PyProof.Rows.All
import Wide.All
import OpenK.AllK
import Wide.FinOn
import Lean
import PyProof.EqAt
import PyProof.EqKinds
import PyProof.TupleCall
import PyProof.NeKinds
import PyProof.StrOps2
import PyProof.InstStoreFacts
import PyProof.ExcInit
import PyProof.ListRange
import PyProof.ListMulRoad
import PyProof.DictWalks
import PyProof.Rows.SortWalk
import KE.KDictOf
import PyProof.AttrMissSeq
import PyProof.DictItemsLoops
import PyProof.ZipIter
import PyProof.Rows.SetFrom
import PyProof.Rows.ZipGen
import PyProof.EnumIter
import PyProof.TupleIter
import KE.KDictSum
import PyProof.DictIter
import PyProof.TupleOfSeq
import KE.KMinKey
import PyProof.Rows.CallKwBuiltin
import PyProof.MinMaxWalk
import KE.KLam
import KE.KRevSl
import KE.KSortTup
import PyProof.MeetsSeq3
import PySem.Challenge.RW_latinclose_k25_whole_closed_just_where
set_option Elab.async false
set_option linter.all false
set_option maxRecDepth 100000
namespace Om
theorem a1 {a b c:Nat} (h:c=b) (g:a<b):a<c := h ▸ g
theorem a2 {a b c:Nat} (g:a<b) (h:b=c):a<c := h ▸ g
theorem b1 {a m k:Nat} (h:a<=m) (g:Nat.ble m k=true):a<=k := Nat.le_trans h (Nat.le_of_ble_eq_true g)
theorem b2 {a n m k:Nat} (f:a<n) (h:n<=m) (g:Nat.ble m k=true):a<=k := Nat.le_trans (Nat.le_of_lt f) (b1 h g)
theorem b3 {a n m k:Nat} (f:a<=n) (h:n<=m) (g:Nat.ble m k=true):a<=k := Nat.le_trans f (b1 h g)
theorem b4 {a n m k:Nat} (f:a=n) (h:n<=m) (g:Nat.ble m k=true):a<=k := f ▸ b1 h g
theorem b5 {a n j m k:Nat} (f:a=n) (e:n<j) (h:j<=m) (g:Nat.ble m k=true):a<=k := f ▸ b2 e h g
theorem b6 {a n j m k:Nat} (f:a<n) (e:n=j) (h:j<=m) (g:Nat.ble m k=true):a<=k := b2 f (e ▸ h) g
theorem c1 {n m:Nat} (h:n<=m) (g:Nat.ble m 100000=true):(n:Int)<2 ^ 62 := Int.lt_of_le_of_lt (Int.ofNat_le.mpr (b1 h g)) (by decide)
theorem c2 {n:Nat} : -2 ^ 62<=(n:Int) := Int.le_trans (by decide:(-2 ^ 62:Int)<=0) (Int.natCast_nonneg n)
theorem c3 {n:Nat} (h:1<=n):(0:Int)<n := Int.natCast_pos.mpr h
theorem c5 {a b:Nat} (h:a<b):(a:Int)<(b:Int) := Int.ofNat_lt.mpr h
theorem c6 {a:Nat}:(0:Int)<=(a:Int) := Int.natCast_nonneg a
theorem d1 {a b:Nat} (h:a<b):a<=b := Nat.le_of_lt h
theorem e1 {a b:Nat} (h:(a:Int)=(b:Int)):a=b := Int.ofNat.inj h
theorem f1 {a b:Nat} (h:a<b):a+1<=b := h
theorem f2 {a b:Nat} (h:a<b):a<b+1 := Nat.lt_succ_of_lt h
theorem f3 {a b:Nat} (h:a<=b):a<b+1 := Nat.lt_succ_of_le h
theorem f5 {a b:Nat} (h:a+1<=b):a<b := h
theorem q1 {a b:Nat} (h:a<=b+1) (g:¬a=b+1):a<=b := Nat.le_of_lt_succ (Nat.lt_of_le_of_ne h g)
theorem g2 {a b c:Nat} (h:a=b) (g:c=b):a=c := h.trans g.symm
theorem z1 {a:Int} (h:0<=a):a=(a.toNat:Int) := (Int.toNat_of_nonneg h).symm
theorem m1 {a b:Nat} (h:a<b):min a b=a := Nat.min_eq_left (Nat.le_of_lt h)
theorem m2 {a b:Nat} (h:a<=b):min a b=a := Nat.min_eq_left h
theorem u2 {a b c d:Nat} (h:a=c) (f:b=d) (g:c=d):a=b := h.trans (g.trans f.symm)
theorem x1 {a b c:Nat} (h:a=b) (g:b<c):a<c := h ▸ g
theorem y2 {a b m:Nat} (h:b=a) (e:b<=m) (g:Nat.ble m k=true):a<=k := h ▸ b1 e g
theorem k0 {x0:Nat} {y0:Int} (h0:x0 ≤ (36:Nat)) (h1:(1:Nat) ≤ x0) (h2:y0<((x0:Nat):Int)):(y0).toNat<x0 := by lia
theorem k1 {x0:Nat} (h0:x0 ≤ (36:Nat)) (h1:(1:Nat) ≤ x0):((x0:Nat):Int)≠(0:Int) := by lia
theorem k2 {x0 x1:Nat} (h0:(1:Nat) ≤ x0) (h1:x0 ≤ (6:Nat)) (h2:x1=x0):((x0:Nat):Int)<((2:Int) ^ 64) := by lia
theorem k3 {x0 x1:Nat} (h0:(1:Nat) ≤ x0) (h1:x0 ≤ (6:Nat)) (h2:x1=x0):(-((2:Int) ^ 64))<((x0:Nat):Int) := by lia
theorem k4 {x0 x1:Nat} (h0:(1:Nat) ≤ x0) (h1:x0 ≤ (6:Nat)) (h2:x1=x0):((x0:Nat):Int)<(1073741824:Int) := by lia
theorem k5 {x0:Nat} (h0:x0 ≤ (36:Nat)) (h1:(1:Nat) ≤ x0):(x0 - (0:Nat))<(37:Nat) := by lia
theorem k6 {x0 x1:Nat} (h0:((x0+(1:Nat))+(2:Nat))<x1):x0<x1 := by lia
theorem k7 {x0 x1 x2:Nat} (h0:x2=x0) (h1:¬(x1<x0)):(x0+(1:Nat)) ≤ (x1+(1:Nat)) := by lia
theorem k8 {x0 x1 x2:Nat} (h0:x1 ≤ (60:Nat)) (h1:x2=x0) (h2:¬(x1<x0)):x0 ≤ (1000:Nat) := by lia
theorem k9 {x0 x1 x2:Nat} (h0:x2=x0) (h1:¬(x1<x0)):((x0:Nat):Int) ≤ ((x1:Nat):Int) := by lia
theorem k10 {x0 x1 x2:Nat} (h0:x0 ≤ (x1+(1:Nat))) (h1:x2=x0) (h2:x1<x0):¬(((x0:Nat):Int) ≤ ((x1:Nat):Int)) := by lia
theorem k11 {x0:Nat} (h0:(0:Nat)<x0):(0:Int)<((x0:Nat):Int) := by lia
theorem k12 {x0 x1 x2:Nat} (h0:x0=x1) (h1:x1 ≤ x2) (h2:x2<x1):False := by lia
theorem k13 {x0 x1 x2:Nat} (h0:x1 ≤ (60:Nat)) (h1:x2=x0) (h2:¬(((x1:Nat):Int)<((x0:Nat):Int))):x0<(64:Nat) := by lia
theorem k14 {x0 x1 x2:Nat} (h0:x2=x0) (h1:¬(((x1:Nat):Int)<((x0:Nat):Int))):x0 ≤ x1 := by lia
theorem k15 {x0 x1 x2:Nat} (h0:x0 ≤ (60:Nat)) (h1:x1 ≤ (x0+(1:Nat))) (h2:x2=x1) (h3:((x0:Nat):Int)<((x1:Nat):Int)):¬(((x0:Nat):Int)<(((0:Nat):Nat):Int)) := by lia
theorem k16 {x0 x1:Nat} (h0:x1=(x0+(1:Nat))):x0<x1 := by lia
theorem k17:(0:Nat) ≤ (217:Nat) := by lia
theorem k18 {x0 x1:Nat} (h0:¬(x1<x0)):x0 ≤ x1 := by lia
theorem k19 {x0 x1:Nat} (h0:x1<x0):x0=((x0 - (1:Nat))+(1:Nat)) := by lia
theorem k20 {x0 x1 x2:Nat} (h0:x1=x2) (h1:(0:Nat)<x2):(x0+(0:Nat))<(x0+x1) := by lia
theorem k21 {x0 x1 x2 x3:Nat} (h0:x1 ≤ x2) (h1:x0 ≤ x3):(x0+x1) ≤ (x2+x3) := by lia
theorem k22 {x0 x1 x2:Nat} (h0:x2 ≤ (6:Nat)) (h1:x1 ≤ x2):(min x0 x1) ≤ (6:Nat) := by lia
theorem k23 {x0 x1 x2 x3:Nat} (h0:x2=x3) (h1:x1=x3) (h2:x0<x2):x0<x1 := by lia
theorem k24 {x0 x1 x2:Nat} (h0:x0<(64:Nat)) (h1:x1=x0) (h2:x2=x0) (h3:¬(x1<(2:Nat))):x0 ≤ (16777216:Nat) := by lia
theorem k25 {x0 x1 x2:Nat} (h0:x1<(64:Nat)) (h1:x0=x1) (h2:x2=x1) (h3:¬(x0<(2:Nat))):(2:Nat) ≤ x0 := by lia
theorem k26 {x0 x1 x2:Nat} (h0:x1<(64:Nat)) (h1:x0=x1) (h2:x2=x1) (h3:¬(x0<(2:Nat))):(0:Nat)<x0 := by lia
theorem k27 {x0 x1 x2:Nat} (h0:x0<(64:Nat)) (h1:x1=x0) (h2:x2=x0) (h3:x1<(2:Nat)):x0 ≤ (16777216:Nat) := by lia
theorem k28 {x0 x1:Nat} (h0:(x0+(6:Nat))<x1):(((x0+(1:Nat))+(1:Nat))+(3:Nat))<x1 := by lia
theorem k29 {x0:Nat} (h0:(2:Nat) ≤ x0) (h1:x0<(64:Nat)):x0 ≤ (16777216:Nat) := by lia
theorem k30 {x0 x1 x2 x3 x4:Nat} (h0:(2:Nat) ≤ x0) (h1:x0<(64:Nat)) (h2:x1=x0) (h3:x0=x2) (h4:x3=x0) (h5:x4=x0):x0 ≤ ((16777216:Nat)+(1:Nat)) := by lia
theorem k31 {x0 x1:Nat} (h0:(x0+(3:Nat))<x1):x0<x1 := by lia
theorem k32 {x0 x1:Nat} (h0:(2:Nat) ≤ x1) (h1:x1<(64:Nat)) (h2:x0=x1):(0:Nat)<x0 := by lia
theorem k33 {x0:Nat} (h0:(0:Nat)<x0) (h1:(0:Nat)=x0):False := by lia
theorem k34 {x0:Nat} (h0:(2:Nat) ≤ x0) (h1:x0<(64:Nat)):¬(x0<(2:Nat)) := by lia
theorem k35 {x0 x1:Nat} (h0:x0 ≤ (36:Nat)) (h1:x1=x0) (h2:(8:Int)<((x0:Nat):Int)):(x0 - (1:Nat)) ≤ (36:Nat) := by lia
theorem k36 {x0 x1:Nat} (h0:x0 ≤ (36:Nat)) (h1:x1=x0) (h2:(8:Int)<((x0:Nat):Int)):(x0 - (1:Nat))<x0 := by lia
theorem k37 {x0 x1:Nat} {y0:Int} (h0:x1=x0) (h1:(0:Int) ≤ y0) (h2:y0<((x0:Nat):Int)):(y0).toNat<x0 := by lia
theorem k38 {x0 x1:Nat} (h0:(0:Nat)<x0) (h1:x1=x0):((x0:Nat):Int)≠(0:Int) := by lia
theorem k39 {x0 x1 x2:Nat} (h0:x1 ≤ (36:Nat)) (h1:x2=x1) (h2:(8:Int)<((x1:Nat):Int)) (h3:x0<x1):((x0:Nat):Int)<((2:Int) ^ 63) := by lia
theorem k40 {x0:Nat}:(-((2:Int) ^ 63)) ≤ ((x0:Nat):Int) := by lia
theorem k41 {x0 x1:Nat} (h0:x0 ≤ (36:Nat)) (h1:x1=x0) (h2:(8:Int)<((x0:Nat):Int)):((x0:Nat):Int)≠(0:Int) := by lia
theorem k42 {x0 x1:Nat} (h0:x0 ≤ (36:Nat)) (h1:x1=x0) (h2:(8:Int)<((x0:Nat):Int)):(0:Int)<((x0:Nat):Int) := by lia
theorem k43 {x0 x1 x2 x3:Nat} (h0:x3 ≤ x0) (h1:(x0 - x3)<(x2+(1:Nat))) (h2:x3 ≤ x1) (h3:x1<x0):(x0 - (x1+(1:Nat)))<x2 := by lia
theorem k44 {x0 x1:Nat} (h0:x0 ≤ x1):x0 ≤ (x1+(1:Nat)) := by lia
theorem k45 {x0 x1:Nat} (h0:x1<x0):(x0 - (x1+(1:Nat)))<(x0 - x1) := by lia
theorem k46 {x0 x1:Nat} (h0:x0<x1) (h1:((x0:Nat):Int)=((x1:Nat):Int)):False := by lia
theorem k47 {x0 x1:Nat} (h0:x0 ≤ x1) (h1:¬(x0<x1)):((x0:Nat):Int)=((x1:Nat):Int) := by lia
theorem k48 {x0 x1:Nat} (h0:x0 ≤ x1) (h1:¬(x0<x1)):¬(((x0:Nat):Int)<((x1:Nat):Int)) := by lia
theorem k49 {x0 x1:Nat} (h0:x0<(x1+(1:Nat))) (h1:¬(x0=x1)):x0<x1 := by lia
theorem k50 {x0:Nat}:(1:Nat) ≤ (x0+(2:Nat)) := by lia
theorem k51 {x0 x1:Nat} (h0:x0=x1) (h1:x1<(6:Nat)):x0 ≤ (1000:Nat) := by lia
theorem k52 {x0 x1 x2:Nat} (h0:x2=(x0+(1:Nat))) (h1:¬(((x1:Nat):Int)<(((x0+(1:Nat)):Nat):Int))):(x0+(1:Nat)) ≤ x1 := by lia
theorem k53 {x0 x1 x2:Nat} (h0:x0=(x2+(1:Nat))) (h1:¬(((x1:Nat):Int)<(((x2+(1:Nat)):Nat):Int))):x0 ≤ x1 := by lia
theorem k54 {x0 x1 x2:Nat} (h0:x2=(x0+(1:Nat))) (h1:¬(((x1:Nat):Int)<(((x0+(1:Nat)):Nat):Int))):(((x0:Nat):Int)+(1:Int)) ≤ ((x1:Nat):Int) := by lia
theorem k55 {x0 x1 x2:Nat} (h0:x1 ≤ x0) (h1:x2=(x1+(1:Nat))) (h2:((x0:Nat):Int)<(((x1+(1:Nat)):Nat):Int)):((x0:Nat):Int)<(((x1:Nat):Int)+(1:Int)) := by lia
theorem k56 {x0 x1:Nat} (h0:x0 ≤ x1) (h1:x1 ≤ (1000:Nat)):x0<(16777216:Nat) := by lia
theorem k57 {x0:Nat}:(2:Nat) ≤ (x0+(4:Nat)) := by lia
theorem k58 {x0:Nat}:(3:Nat) ≤ (x0+(4:Nat)) := by lia
theorem k59 {x0:Nat}:(2:Nat) ≤ (x0+(6:Nat)) := by lia
theorem k60 {x0:Nat}:(4:Nat) ≤ (x0+(6:Nat)) := by lia
theorem k61 {x0:Nat}:(1:Nat) ≤ (x0+(6:Nat)) := by lia
theorem k62 {x0:Nat}:(3:Nat) ≤ (x0+(6:Nat)) := by lia
theorem k63 {y0 y1:Int} (h0:(y0+(1:Int)) ≤ y1) (h1:y1<(y0+(1:Int))):False := by lia
theorem k64 {y0 y1:Int} (h0:y0<(y1+(1:Int))) (h1:(y1+(1:Int)) ≤ y0):False := by lia
theorem k65 {x0 x1:Nat} (h0:((x0:Nat):Int)<((x1:Nat):Int)):x0<x1 := by lia
theorem k66 {x0 x1 x2 x3:Nat} (h0:x1 ≤ (6:Nat)) (h1:x0<x1) (h2:x2=x1) (h3:x3=x1):(((min x0 x1)+(1:Nat))+(x1 - (x0+(1:Nat)))) ≤ (1000:Nat) := by lia
theorem k67 {x0 x1 x2 x3 x4:Nat} (h0:x1 ≤ (6:Nat)) (h1:x0<x1) (h2:x2<x1) (h3:x3=x1) (h4:x4=x1):((min x0 x1)+(1:Nat)) ≤ (1000:Nat) := by lia
theorem k68 {x0 x1 x2 x3 x4:Nat} (h0:x1 ≤ (6:Nat)) (h1:x2<x1) (h2:x0<x1) (h3:x3=x1) (h4:x4=x1):((min x0 x1)+(1:Nat)) ≤ (1000:Nat) := by lia
theorem k69 {y0 y1 y2:Int} (h0:y1=y2) (h1:y2<y0):¬(y0=y1) := by lia
theorem k70 {x0 x1 x2:Nat} (h0:x0 ≤ (36:Nat)) (h1:x1 ≤ (36:Nat)) (h2:x2 ≤ (36:Nat)):((x0+x1)+x2) ≤ (108:Nat) := by lia
theorem k71 {x0 x1 x2 x3:Nat} (h0:(0:Nat)<x2) (h1:x3=x2) (h2:x1=x2) (h3:x0<x2):x0 ≤ (x1 - (1:Nat)) := by lia
theorem k72 {x0 x1 x2 x3:Nat} (h0:(0:Nat)<x1) (h1:x2=x1) (h2:x0 ≤ (x3 - (1:Nat))) (h3:x3=x1):x0<x1 := by lia
theorem k73 {y0 y1:Int} (h0:¬(y1<y0)):y0 ≤ y1 := by lia
theorem k74 {x0:Nat} (h0:x0 ≤ (0:Nat)):x0=(0:Nat) := by lia
theorem k75 {x0 x1 x2:Nat} (h0:(x0 - (x1+(1:Nat)))=(x2+(1:Nat))) (h1:(x1+(1:Nat))<x0):(x0 - ((x1+(1:Nat))+(1:Nat)))=x2 := by lia
theorem k76 {x0 x1 x2:Nat} (h0:(x1 - (x0+(1:Nat)))=(x2+(1:Nat))) (h1:(x0+(1:Nat)) ≤ x1):(x0+(1:Nat))<x1 := by lia
theorem k77 {x0 x1:Nat} (h0:(x1 - (x0+(1:Nat)))=(0:Nat)) (h1:(x0+(1:Nat)) ≤ x1):(x0+(1:Nat))=x1 := by lia
theorem k78 {x0 x1 x2 x3 x4 x5 x6 x7 x8 x9:Nat} (h0:x1 ≤ (6:Nat)) (h1:x2=x1) (h2:x3 ≤ (36:Nat)) (h3:x4<x1) (h4:x0=(((x5+x6)+x7)+x8)) (h5:x5 ≤ x3) (h6:x7 ≤ x9) (h7:x6 ≤ x3) (h8:x9 ≤ (36:Nat)) (h9:x8 ≤ x4):x0 ≤ (1000:Nat) := by lia
theorem k79 {x0 x1 x2 x3 x4 x5 x6 x7 x8:Nat} (h0:x1 ≤ (6:Nat)) (h1:x2=x1) (h2:x3 ≤ (36:Nat)) (h3:x4<x1) (h4:x0=((x5+x6)+x7)) (h5:x5 ≤ x3) (h6:x6 ≤ x8) (h7:x8 ≤ (36:Nat)) (h8:x7 ≤ x4):x0 ≤ (1000:Nat) := by lia
theorem k80 {x0 x1 x2 x3 x4:Nat} (h0:x1 ≤ (36:Nat)) (h1:x2 ≤ x1) (h2:x3=x2) (h3:x0=(min x4 x2)):x0 ≤ (1000:Nat) := by lia
theorem k81 {x0 x1:Nat} (h0:x1 ≤ (36:Nat)) (h1:x0 ≤ x1):x0<(64:Nat) := by lia
theorem k82 {x0 x1 x2 x3 x4 x5:Nat} (h0:x2 ≤ (6:Nat)) (h1:x3=x2) (h2:x4<x2) (h3:x0 ≤ x5) (h4:x1 ≤ x4) (h5:x5 ≤ (36:Nat)):(x0+x1) ≤ (1000:Nat) := by lia
theorem k83 {x0:Nat} (h0:x0<x0):False := by lia
theorem k84 {x0 x1:Nat} (h0:¬(x1=x0)):¬(((x0:Nat):Int)=((x1:Nat):Int)) := by lia
theorem k85 {x0 x1 x2 x3 x4:Nat} (h0:x2<x3) (h1:x4<x3) (h2:x1<x0):¬(x0<x1) := by lia
theorem k86 {x0 x1 x2 x3 x4:Nat} (h0:x2<x3) (h1:x4<x3) (h2:x1<x0):¬(x0=x1) := by lia
theorem k87 {x0 x1 x2 x3 x4:Nat} (h0:x2<x3) (h1:x4<x3) (h2:x0<x1):¬(x0=x1) := by lia
theorem k88 {x0 x1:Nat}:(((x0:Nat):Int)<((x1:Nat):Int))↔(x0<x1) := by lia
theorem k89 {x0 x1:Nat} (h0:¬(x0=x1)):¬(((x0:Nat):Int)=((x1:Nat):Int)) := by lia
theorem k90 {x0 x1:Nat} (h0:x0=x1):¬(x0<x1) := by lia
theorem k91 {x0 x1:Nat} (h0:x0=x1):((x0:Nat):Int)=((x1:Nat):Int) := by lia
theorem k92 {x0 x1:Nat} (h0:x0<(64:Nat)) (h1:x1=x0):x0 ≤ (16777216:Nat) := by lia
theorem k93 {x0 x1:Nat} (h0:x0<(64:Nat)) (h1:x0=x1) (h2:¬(x0<(2:Nat))):(2:Nat) ≤ x0 := by lia
theorem k94 {x0 x1:Nat} (h0:x0<(64:Nat)) (h1:x0=x1):x0 ≤ (16777216:Nat) := by lia
theorem k95 {x0:Nat}:¬(((x0:Nat):Int)<(0:Int)) := by lia
theorem k96 {x0:Nat} (h0:x0<(2:Nat)):x0 ≤ (16777216:Nat) := by lia
theorem k97 {x0:Nat} (h0:x0<(2:Nat)):x0 ≤ ((16777216:Nat)+(1:Nat)) := by lia
theorem k98 {x0 x1 x2 x3:Nat} (h0:x2=x3) (h1:x0=x2) (h2:x1=x3):(min x0 x1)=x2 := by lia
theorem k99 {x0 x1 x2 x3 x4 x5:Nat} (h0:x3 ≤ (36:Nat)) (h1:x4 ≤ (36:Nat)) (h2:x5 ≤ (36:Nat)) (h3:x0=x3) (h4:x1=x4) (h5:x2=x5):((x0+x1)+x2) ≤ (1000:Nat) := by lia
theorem k100 {x0 x1 x2 x3:Nat} (h0:x2 ≤ (36:Nat)) (h1:x3 ≤ (36:Nat)) (h2:x0=x2) (h3:x1=x3):(x0+x1) ≤ (1000:Nat) := by lia
theorem k101 {x0 x1 x2 x3 x4 x5 x6 x7 x8:Nat} (h0:x1 ≤ (6:Nat)) (h1:x2=x1) (h2:x3<x1) (h3:x4=x1) (h4:x5=x1) (h5:x0=(x6+x7)) (h6:x6 ≤ x8) (h7:x7 ≤ x1) (h8:x8 ≤ (36:Nat)):x0 ≤ (1000:Nat) := by lia
theorem k102 {x0 x1 x2 x3 x4 x5 x6:Nat} (h0:x1 ≤ (6:Nat)) (h1:x2=x1) (h2:x3<x1) (h3:x0=(x4+x5)) (h4:x4 ≤ x6) (h5:x5 ≤ x3) (h6:x6 ≤ (36:Nat)):x0 ≤ (1000:Nat) := by lia
theorem k103 {x0 x1 x2 x3:Nat} (h0:x2 ≤ (6:Nat)) (h1:x3=x2) (h2:x0<x2):(min x0 x1) ≤ (1000:Nat) := by lia
theorem k104 {x0 x1:Nat} (h0:x0 ≤ (6:Nat)) (h1:x1=x0):(x0+x0) ≤ (1000:Nat) := by lia
theorem k105 {x0 x1 x2:Nat} (h0:(x0 - x1)=(x2+(1:Nat))) (h1:x1<x0):(x0 - (x1+(1:Nat)))=x2 := by lia
theorem k106 {x0 x1 x2:Nat} (h0:(x1 - x0)=(x2+(1:Nat))) (h1:x0 ≤ x1):x0<x1 := by lia
theorem k107 {x0 x1:Nat} (h0:(x1 - x0)=(0:Nat)) (h1:x0 ≤ x1):x0=x1 := by lia
theorem k108 {y0 y1:Int} (h0:y0<y1) (h1:y1 ≤ y0):False := by lia
theorem k109 {x0:Nat} (h0:x0<(1:Nat)):x0=(0:Nat) := by lia
theorem k110 {x0:Nat} (h0:x0=(0:Nat)) (h1:(x0+(1:Nat))=(0:Nat)):False := by lia
theorem k111 {x0 x1:Nat} {y0:Int} (h0:(0:Nat)<x0) (h1:x1=x0) (h2:y0<((x0:Nat):Int)):(y0).toNat<x0 := by lia
theorem k112 {x0:Nat}:(0:Int)<(((x0:Nat):Int)+(1:Int)) := by lia
theorem k113 {x0 x1:Nat} {y0:Int} (h0:((1:Int)+(y0 % (6:Int)))=((x0:Nat):Int)) (h1:x1=x0):((x0:Nat):Int)<(1073741824:Int) := by lia
theorem k114 {x0 x1:Nat} {y0:Int} (h0:((1:Int)+(y0 % (6:Int)))=((x0:Nat):Int)) (h1:x1=x0):((x0:Nat):Int)<((2:Int) ^ 64) := by lia
theorem k115 {x0 x1:Nat} {y0:Int} (h0:((1:Int)+(y0 % (6:Int)))=((x0:Nat):Int)) (h1:x1=x0):(-((2:Int) ^ 64))<((x0:Nat):Int) := by lia
theorem k116 {y0:Int}:((2:Int)+((y0 / (18:Int)) % (3:Int)))<(1073741824:Int) := by lia
theorem k117 {y0:Int}:(0:Int)<((2:Int)+((y0 / (18:Int)) % (3:Int))) := by lia
theorem k118 {y0:Int}:(((1:Int)+(y0 % (6:Int)))).toNat ≤ (6:Nat) := by lia
theorem k119 {y0:Int}:(1:Nat) ≤ (((1:Int)+(y0 % (6:Int)))).toNat := by lia
theorem k120 {y0:Int}:((1:Int)+(y0 % (6:Int)))=(((((1:Int)+(y0 % (6:Int)))).toNat:Nat):Int) := by lia
theorem k121 {x0:Nat} (h0:(1:Nat) ≤ x0) (h1:x0 ≤ (6:Nat)):((x0:Nat):Int)<(1073741824:Int) := by lia
theorem k122 {x0:Nat} (h0:(1:Nat) ≤ x0) (h1:x0 ≤ (6:Nat)):((x0:Nat):Int)<((2:Int) ^ 64) := by lia
theorem k123 {x0:Nat} (h0:(1:Nat) ≤ x0) (h1:x0 ≤ (6:Nat)):(-((2:Int) ^ 64))<((x0:Nat):Int) := by lia
theorem k124 {x0:Nat} (h0:(1:Nat) ≤ x0) (h1:x0 ≤ (6:Nat)):x0<(1000:Nat) := by lia
theorem k125 {x0:Nat}:(0:Nat)<(x0+(1:Nat)) := by lia
theorem k126 {x0 x1:Nat} (h0:(1:Nat) ≤ x0) (h1:x0 ≤ (8:Nat)) (h2:x1=x0) (h3:(0:Nat)=x0):False := by lia
theorem k127 {x0 x1:Nat} (h0:(1:Nat) ≤ x0) (h1:x0 ≤ (8:Nat)) (h2:x1=x0):((x0:Nat):Int)<((2:Int) ^ 64) := by lia
theorem k128 {x0 x1:Nat} (h0:(1:Nat) ≤ x0) (h1:x0 ≤ (8:Nat)) (h2:x1=x0):(-((2:Int) ^ 64))<((x0:Nat):Int) := by lia
theorem k129 {x0:Nat} (h0:(1:Nat) ≤ x0) (h1:x0 ≤ (8:Nat)):((x0:Nat):Int)<(1073741824:Int) := by lia
theorem k130 {x0:Nat} (h0:(1:Nat) ≤ x0) (h1:x0 ≤ (8:Nat)):((x0:Nat):Int)<((2:Int) ^ 64) := by lia
theorem k131 {x0:Nat} (h0:(1:Nat) ≤ x0) (h1:x0 ≤ (8:Nat)):(-((2:Int) ^ 64))<((x0:Nat):Int) := by lia
theorem k132 {x0 x1 x2 x3 x4:Nat} (h0:x3<x0) (h1:x4 ≤ x1) (h2:x4=(x2+x0)):(min x0 (x1 - x2))=x0 := by lia
theorem k133 {x0 x1 x2:Nat} (h0:x0=(x1+x2)):(x0 - x1)=x2 := by lia
theorem k134 {x0 x1 x2 x3 x4:Nat} (h0:x2<x3) (h1:x4 ≤ x1) (h2:x4=(x0+x3)):x0 ≤ x1 := by lia
theorem k135 {x0 x1 x2:Nat} (h0:x1=x0) (h1:x2<x0):(0:Nat)<x0 := by lia
theorem k136 {x0 x1:Nat} (h0:x0<(x1+(1:Nat))) (h1:¬(x0<x1)):x0=x1 := by lia
theorem k137 {x0 x1 x2 x3:Nat} (h0:x3=x0) (h1:(x0 - x1)<(x2+(1:Nat))) (h2:x1<x0):(x0 - (x1+(1:Nat)))<x2 := by lia
theorem k138 {x0:Nat} {y0:Int} (h0:(0:Int) ≤ y0) (h1:y0<((x0:Nat):Int)):(y0).toNat<x0 := by lia
theorem k139 {x0:Nat} (h0:(0:Int)<((x0:Nat):Int)):((x0:Nat):Int)≠(0:Int) := by lia
theorem k140 {x0 x1 x2:Nat} (h0:x1=x0) (h1:x2<x0):(0:Int)<((x0:Nat):Int) := by lia
theorem k141 {y0:Int} (h0:(0:Int)<y0) (h1:y0<(1073741824:Int)):y0≠(0:Int) := by lia
theorem k142 {x0:Nat} {y0:Int}:(y0+(((x0:Nat):Int) - y0))=((x0:Nat):Int) := by lia
theorem k143 {x0:Nat} (h0:(0:Nat)<x0):((x0:Nat):Int)≠(0:Int) := by lia
theorem k144 {x0 x1:Nat} (h0:x0<x1) (h1:x0=x1):False := by lia
theorem k145 {x0:Nat}:((0:Nat)+x0)=x0 := by lia
theorem k146 {x0:Nat}:x0<(x0+(1:Nat)) := by lia
theorem k147 {x0:Nat} (h0:x0=(1:Nat)):(0:Nat)<x0 := by lia
theorem k148 {x0 x1 x2 x3:Nat} (h0:(x0+(x1 - x2)) ≤ x3) (h1:x3 ≤ x0) (h2:(0:Nat)<(x1 - x2)):False := by lia
theorem k149 {x0 x1:Nat} (h0:x1<x0):(0:Nat)<(x0 - x1) := by lia
theorem k150 {x0 x1:Nat} (h0:((x1:Nat):Int)=((x0:Nat):Int)):x0=x1 := by lia
theorem k151 {x0 x1 x2 x3 x4:Nat} (h0:(x0+x3)=x4):((x0+x1)+(x2+x3))=((x2+x1)+x4) := by lia
theorem k152 {x0 x1 x2 x3 x4:Nat} (h0:x3<x4) (h1:(x0+(1:Nat)) ≤ x1):(x0+(1:Nat)) ≤ (x1+x2) := by lia
theorem k153 {x0 x1:Nat} (h0:x0 ≤ x1) (h1:x1 ≤ (x0 - (1:Nat))) (h2:(0:Nat)<x0):False := by lia
theorem k154 {x0:Nat} {y0:Int} (h0:((0:Int) ≤ y0) ∧ (y0<((x0:Nat):Int))):(((y0).toNat:Nat):Int)=y0 := by lia
theorem k155 {x0:Nat} {y0:Int} (h0:((0:Int) ≤ y0) ∧ (y0<((x0:Nat):Int))):(y0).toNat<x0 := by lia
theorem k156 {x0 x1 x2:Nat} (h0:((x0:Nat):Int)=((x1:Nat):Int)) (h1:x2≠x1) (h2:x0=x2):False := by lia
theorem k157 {x0:Nat}:¬(x0<(0:Nat)) := by lia
theorem k158 {x0 x1 x2 x3:Nat} (h0:(x1+(x2+(1:Nat)))=x3) (h1:x0<x1):x0≠x1 := by lia
theorem k159 {x0 x1 x2 x3:Nat} (h0:(x2+(x3+(1:Nat)))=x1) (h1:x2<x1) (h2:x0<x2):x0<x1 := by lia
theorem k160 {x0 x1 x2 x3:Nat} (h0:(x1+(x2+(1:Nat)))=x3) (h1:¬(x0<x1)) (h2:¬(x0=x1)):¬(x0<(x1+(1:Nat))) := by lia
theorem k161 {x0 x1 x2 x3:Nat} (h0:(x1+(x2+(1:Nat)))=x3) (h1:x0=x1):x0<(x1+(1:Nat)) := by lia
theorem k162 {x0 x1 x2 x3:Nat} (h0:(x1+(x2+(1:Nat)))=x3) (h1:x0<x1):¬(x0=x1) := by lia
theorem k163 {x0 x1 x2:Nat} (h0:(x0+(x1+(1:Nat)))=x2):((x0+(1:Nat))+x1)=x2 := by lia
theorem k164 {x0 x1 x2:Nat} (h0:(x0+(x2+(1:Nat)))=x1):x0<x1 := by lia
theorem k165 (h0:(1:Nat) ≤ (0:Nat)):False := by lia
theorem k166 {x0:Nat}:(2:Nat) ≤ ((x0+(1:Nat))+(1:Nat)) := by lia
theorem k167 {x0:Nat}:(1:Nat) ≤ (x0+(1:Nat)) := by lia
theorem k168 {x0:Nat} (h0:(x0+(2:Nat))<(1000:Nat)):(((x0+(2:Nat)):Nat):Int)<(1000:Int) := by lia
theorem k169 {x0:Nat} (h0:(x0+(2:Nat))<(1000:Nat)):(2:Int) ≤ (((x0+(2:Nat)):Nat):Int) := by lia
theorem k170 {x0:Nat}:(x0+((0:Nat)+(1:Nat))) ≤ (x0+(1:Nat)) := by lia
theorem k171 {x0:Nat}:x0 ≤ (x0+(1:Nat)) := by lia
theorem k172 {x0 x1:Nat} (h0:x0 ≤ x1):¬(x0>x1) := by lia
theorem k173 {x0 x1:Nat} {y0:Int} (h0:((x0:Nat):Int)=y0) (h1:x0 ≤ x1):¬(((x0:Nat):Int)>((x1:Nat):Int)) := by lia
theorem k174 {y0:Int} (h0:(2:Int) ≤ y0) (h1:y0<(1000:Int)) (h2:y0 ≤ (0:Int)):False := by lia
theorem k175 {y0:Int} (h0:(2:Int) ≤ y0) (h1:y0<(1000:Int)) (h2:y0=(1:Int)):False := by lia
theorem k176 {y0:Int} (h0:(2:Int) ≤ y0) (h1:y0<(1000:Int)):¬(y0 ≥ ((2:Int) ^ 63)) := by lia
theorem k177 {y0:Int} (h0:(2:Int) ≤ y0) (h1:y0<(1000:Int)):¬(y0<(-((2:Int) ^ 63))) := by lia
theorem k178 {y0:Int} (h0:(2:Int) ≤ y0) (h1:y0<(1000:Int)):(0:Int) ≤ y0 := by lia
theorem k179:((0:Nat)+(1:Nat)) ≤ ((16777216:Nat)+(1:Nat)) := by lia
theorem k180 {x0 x1 x2:Nat} (h0:(x0+x2)<x1):x0<x1 := by lia
theorem k181 {x0 x1 x2:Nat} (h0:(x0+(x2+(1:Nat)))<x1):x0<x1 := by lia
theorem k182 {x0 x1 x2:Nat} (h0:(x0+(x1+(1:Nat)))<x2):((x0+(1:Nat))+x1)<x2 := by lia
theorem k183 {x0 x1 x2:Nat} (h0:x0<x1):¬(((min (x0+(1:Nat)) x1)=(0:Nat)) ∧ (x2=x1)) := by lia
theorem k184 {x0 x1 x2:Nat} (h0:x1<x2):¬((x0=(0:Nat)) ∧ ((min x1 x2)=x2)) := by lia
theorem k185 {x0 x1:Nat} (h0:x0<x1):((min x0 x1)+((x1 - (x0+(1:Nat)))+(1:Nat)))=x1 := by lia
theorem k186 {x0 x1 x2:Nat} (h0:¬(x1<x0)) (h1:(min x0 x2)=x0) (h2:(x1 - x0)=(((x1 - x0) - (1:Nat))+(1:Nat))):((x0+(1:Nat))+((x1 - x0) - (1:Nat)))=x1 := by lia
theorem k187 {x0 x1 x2:Nat} (h0:¬(x0<x1)) (h1:(min x1 x2)=x1) (h2:¬(x0=x1)):(x0 - x1)=(((x0 - x1) - (1:Nat))+(1:Nat)) := by lia
theorem k188 {x0 x1 x2:Nat} (h0:x0<x1) (h1:¬(x2<x0)):(min x0 x1) ≤ x2 := by lia
theorem k189 {x0 x1:Nat} (h0:x0<x1):¬(x0=x1) := by lia
theorem k190 {x0 x1 x2:Nat} (h0:x1<x2) (h1:x0<x1):x0<(min x1 x2) := by lia
theorem k191 {x0 x1:Nat} (h0:x0 ≤ x1) (h1:¬(x0<x1)):x0=x1 := by lia
theorem k192 {x0 x1 x2 x3:Nat} (h0:x2=x0) (h1:x3=x1) (h2:¬(x2=x3)):x0≠x1 := by lia
theorem k193 {x0 x1 x2 x3:Nat} (h0:x2=x0) (h1:x3=x1) (h2:x2=x3):x0=x1 := by lia
theorem k194 {x0 x1 x2:Nat} (h0:x1=x2) (h1:x0<x1):x0<(min x1 x2) := by lia
theorem k195 {x0 x1 x2:Nat} (h0:x1=x2) (h1:x0<(min x1 x2)):x0<x1 := by lia
theorem k196 {x0 x1 x2 x3 x4:Nat} (h0:(x3+x4) ≤ x2) (h1:x3=x0) (h2:x4=x1):(x0+x1) ≤ x2 := by lia
theorem k197 {x0 x1 x2:Nat} (h0:x0 ≤ x1) (h1:x0=x2):(x0 - (1:Nat)) ≤ x1 := by lia
theorem k198 {x0 x1 x2:Nat} (h0:x1<((2:Nat) ^ 63)) (h1:x2 ≤ x1) (h2:x2=x0):((x0:Nat):Int)<((2:Int) ^ 63) := by lia
theorem k199 {x0:Nat} {y0:Int} (h0:¬(y0<(0:Int))):(max (0:Int) (min y0 ((x0:Nat):Int)))=(((min (y0).toNat x0):Nat):Int) := by lia
theorem k200 {x0:Nat} {y0:Int} (h0:y0<(0:Int)):(max (0:Int) (min (y0+((x0:Nat):Int)) ((x0:Nat):Int)))=((((y0+((x0:Nat):Int))).toNat:Nat):Int) := by lia
theorem k201 {x0 x1 x2 x3:Nat} {y0:Int} (h0:x0 ≤ x1) (h1:x2<x0) (h2:y0<((x0:Nat):Int)) (h3:x0=x3) (h4:x1<((2:Nat) ^ 63)):y0<((2:Int) ^ 63) := by lia
theorem k202 {x0 x1 x2 x3:Nat} {y0:Int} (h0:x0 ≤ x1) (h1:x2<x0) (h2:(-((x0:Nat):Int)) ≤ y0) (h3:x0=x3) (h4:x1<((2:Nat) ^ 63)):(-((2:Int) ^ 63)) ≤ y0 := by lia
theorem k203 {x0 x1 x2:Nat} {y0:Int} (h0:x0 ≤ x1) (h1:(-((x0:Nat):Int)) ≤ y0) (h2:x0=x2) (h3:x1<((2:Nat) ^ 63)):(-((2:Int) ^ 63)) ≤ y0 := by lia
theorem k204 {x0 x1:Nat} {y0:Int} (h0:(-((x1:Nat):Int)) ≤ y0) (h1:x1=x0):(-((x0:Nat):Int)) ≤ y0 := by lia
theorem k205 {y0:Int} (h0:¬((0:Int) ≤ y0)):y0<(0:Int) := by lia
theorem k206 {x0 x1 x2:Nat} {y0:Int} (h0:x0 ≤ x1) (h1:y0<((x0:Nat):Int)) (h2:x0=x2) (h3:x1<((2:Nat) ^ 63)):y0<((2:Int) ^ 63) := by lia
theorem k207 {x0:Nat} {y0:Int} (h0:¬((0:Int) ≤ y0)) (h1:(-((x0:Nat):Int)) ≤ y0):y0<((x0:Nat):Int) := by lia
theorem k208 {x0 x1:Nat} {y0:Int} (h0:¬((0:Int) ≤ y0)) (h1:(-((x1:Nat):Int)) ≤ y0) (h2:((y0+((x1:Nat):Int))).toNat=x0):x0<x1 := by lia
theorem k209 {x0:Nat} {y0:Int} (h0:(0:Int) ≤ y0):(-((x0:Nat):Int)) ≤ y0 := by lia
theorem k210 {x0 x1:Nat} {y0:Int} (h0:(0:Int) ≤ y0) (h1:y0<((x1:Nat):Int)) (h2:(y0).toNat=x0):x0<x1 := by lia
theorem k211 {x0 x1 x2:Nat}:(min (x0 - x1) (x2 - x1)) ≤ x2 := by lia
theorem k212 {x0 x1 x2:Nat} (h0:x0 ≤ x1) (h1:((x2:Nat):Int)=(0:Int)) (h2:(x0 - x2)=x1):x0=x1 := by lia
theorem k213 {x0:Nat} (h0:((x0:Nat):Int)=(0:Int)):x0=(0:Nat) := by lia
theorem k214 {x0 x1 x2 x3:Nat} (h0:x2 ≤ x3):(min (x0 - x1) (x2 - x1)) ≤ x3 := by lia
theorem k215 {x0 x1:Nat}:((((x0:Nat):Int)+(((x1:Nat):Int)*(1:Int)))).toNat=(x0+x1) := by lia
theorem k216:(1:Int)>(0:Int) := by lia
theorem k217:¬((1:Int)<(0:Int)) := by lia
theorem k218 {x0:Nat} {y0:Int} (h0:¬(y0<(0:Int))):(min y0 ((x0:Nat):Int))=(((min (y0).toNat x0):Nat):Int) := by lia
theorem k219 {x0:Nat} {y0:Int}:(max (y0+((x0:Nat):Int)) (0:Int))=((((y0+((x0:Nat):Int))).toNat:Nat):Int) := by lia
theorem k220 {x0 x1:Nat} {y0:Int} (h0:x1 ≤ x0) (h1:y0<(0:Int)):((y0+((x0:Nat):Int))).toNat ≤ x0 := by lia
theorem k221 {x0 x1 x2:Nat} (h0:x0=x2) (h1:x2 ≤ x1):(x0+(x1 - x0))=x1 := by lia
theorem k222 {x0 x1 x2:Nat} (h0:((x0+((16:Nat)*(x1+(1:Nat))))+(200:Nat))<x2):(((x0+(1:Nat))+((16:Nat)*x1))+(200:Nat))<x2 := by lia
theorem k223 {x0 x1 x2:Nat} (h0:((x0+((3:Nat)*(x1+(1:Nat))))+(5:Nat))<x2):((x0+((3:Nat)*x1))+(5:Nat))<x2 := by lia
theorem k224 {x0 x1 x2:Nat} (h0:((x0+((16:Nat)*(x1+(1:Nat))))+(200:Nat))<x2):(((x0+(3:Nat))+((16:Nat)*x1))+(200:Nat))<x2 := by lia
theorem k225 {x0 x1 x2:Nat} (h0:((x0+((3:Nat)*(x1+(1:Nat))))+(5:Nat))<x2):(((x0+(1:Nat))+((3:Nat)*x1))+(5:Nat))<x2 := by lia
theorem k226 {x0 x1:Nat} (h0:x0 ≤ x1):(x0+(1:Nat)) ≤ (x1+(1:Nat)) := by lia
theorem k227 {y0:Int} (h0:(0:Int)<y0):(0:Int) ≤ y0 := by lia
theorem k228 {y0:Int} (h0:(0:Int)<y0):y0≠(0:Int) := by lia
theorem k229 {y0:Int} (h0:(0:Int)<y0) (h1:y0<(1073741824:Int)):(0:Int) ≤ y0 := by lia
theorem k230:(0:Int)<((2:Int) ^ 62) := by lia
theorem k231:(-((2:Int) ^ 62)) ≤ (0:Int) := by lia
theorem k232 {x0 x1 x2:Nat} (h0:x2 ≤ x1) (h1:x2=x0):x0 ≤ x1 := by lia
end Om
namespace L2
open PySem PySem.Spec PyProof.Rows
noncomputable abbrev Key:=Sum Int Str
noncomputable def ZcY:Key->Value->Bool
 | .inl k,v=>Value.isInt k v
 | .inr x,v=>Value.isStrOf x v
noncomputable def Zlo (w:World):Key->Int
 | .inl k=>hashInt k
 | .inr x=>hashStr w x
theorem Z8:∀ {k:Key} {v:Value},ZcY k v=true->(∃ i t,k=Sum.inl i/\v=Value.int i t)\/(∃ x t,k=Sum.inr x/\v=Value.str x t)
 | .inl i,v,h=>by
  obtain ⟨t,e⟩:=Value.isInt_shape (k:=i) (v:=v) h
  exact .inl ⟨i,t,rfl,e⟩
 | .inr x,v,h=>by
  obtain ⟨t,e⟩:=Value.isStrOf_shape (x:=x) (v:=v) h
  exact .inr ⟨x,t,rfl,e⟩
theorem ZgN (i:Int) (t:Tok):ZcY (.inl i) (.int i t)=true:=by simp [ZcY,Value.isInt]
theorem ZgM (x:Str) (t:Tok):ZcY (.inr x) (.str x t)=true:=by simp [ZcY,Value.isStrOf]
theorem Zkb (a b:Int):decide ((Sum.inl a:Key)=Sum.inl b)=(a==b):=by
 by_cases e:a=b
 ·subst e; simp
 ·have h:¬ (Sum.inl a:Key)=Sum.inl b:=fun q=>e (Sum.inl.inj q)
  rw [decide_eq_false h]
  exact (beq_eq_false_iff_ne.mpr e).symm
theorem Zj8 (a b:Str):decide ((Sum.inr a:Key)=Sum.inr b)=decide (a=b):=by
 by_cases e:a=b
 ·subst e; simp
 ·have h:¬ (Sum.inr a:Key)=Sum.inr b:=fun q=>e (Sum.inr.inj q)
  rw [decide_eq_false h,decide_eq_false e]
theorem Zka (a:Int) (b:Str):decide ((Sum.inl a:Key)=Sum.inr b)=false:=decide_eq_false (fun q=>nomatch q)
theorem Zj9 (a:Str) (b:Int):decide ((Sum.inr a:Key)=Sum.inl b)=false:=decide_eq_false (fun q=>nomatch q)
noncomputable def Yu (prog:Program) (w:World):PySem.KeyKind prog w Key where
 is:=ZcY
 hash:=Zlo w
 inj:=fun v a b ha hb=>by
  rcases Z8 ha with ⟨i,t,rfl,rfl⟩ | ⟨x,t,rfl,rfl⟩
  ·rcases Z8 hb with ⟨j,u,rfl,e⟩ | ⟨y,u,rfl,e⟩
   ·injection e with e1 _; rw [e1]
   ·exact nomatch e
  ·rcases Z8 hb with ⟨j,u,rfl,e⟩ | ⟨y,u,rfl,e⟩
   ·exact nomatch e
   ·injection e with e1 _; rw [e1]
 byValue:=fun k v h=>by
  rcases Z8 h with ⟨i,t,rfl,rfl⟩ | ⟨x,t,rfl,rfl⟩ <;> rfl
 pyHash:=fun hv h=>by
  rcases Z8 hv with ⟨i,t,rfl,rfl⟩ | ⟨x,t,rfl,rfl⟩
  ·exact wpAny_pyHash_int h
  ·exact wpAny_pyHash_str h
 eqBool:=fun hu hv h=>by
  rcases Z8 hu with ⟨i,t,rfl,rfl⟩ | ⟨x,t,rfl,rfl⟩
  ·rcases Z8 hv with ⟨j,u,rfl,rfl⟩ | ⟨y,u,rfl,rfl⟩
   ·rw [Zkb] at h; exact wpAny_eqBool_int h
   ·rw [Zka] at h; exact SeqAt.EqAt.int_str i t y u _ _ _ _ h
  ·rcases Z8 hv with ⟨j,u,rfl,rfl⟩ | ⟨y,u,rfl,rfl⟩
   ·rw [Zj9] at h; exact SeqAt.EqAt.str_int x t j u _ _ _ _ h
   ·rw [Zj8] at h; exact wpAny_eqBool_str h
 «strs»:=fun k x t v h=>by
  rcases Z8 h with ⟨i,u,rfl,e⟩ | ⟨y,u,rfl,e⟩
  ·exact nomatch e
  ·injection e with e1 _
   subst e1
   cases v <;> rfl
theorem Zee (prog:Program) (w:World) (i:Int) (t:Tok):(Yu prog w).is (.inl i) (.int i t)=true:=ZgN i t
theorem Zed (prog:Program) (w:World) (x:Str) (t:Tok):(Yu prog w).is (.inr x) (.str x t)=true:=ZgM x t
end L2
namespace L2
open PySem PySem.Spec PyProof.Rows
inductive V where
 | non | bl (b:Bool) | int (i:Int) | str (x:Str) | byt (b:Array UInt8) | flt (b:UInt64) | ref (a:Addr) | ty (n:String)
 deriving DecidableEq
noncomputable def RelV:V->Value->Prop
 | .non,u=>u=Value.none
 | .bl b,u=>u=Value.bool b
 | .int i,u=>∃ t,u=Value.int i t
 | .str x,u=>∃ t,u=Value.str x t
 | .byt b,u=>∃ t,u=Value.bytes b t
 | .flt b,u=>∃ t,u=Value.float b t
 | .ref a,u=>u=Value.ref a
 | .ty n,u=>u=Value.type n
noncomputable abbrev Vals:List V->List Value->Prop:=Paired RelV
theorem Vals.length {xs:List V} {us:List Value} (r:Vals xs us):xs.length=us.length:=Paired.length r
theorem Vals.get:∀ {xs:List V} {us:List Value} {i:Nat} {x:V},Vals xs us->xs[i]? = some x->∃ u,us[i]? = some u/\RelV x u
 | _,_,_,_,.nil,e=>by simp at e
 | _,_,0,_,.cons r _,e=>by simp at e; subst e; exact ⟨_,rfl,r⟩
 | _,_,i+1,x,.cons _ t,e=>by
  obtain ⟨u,h1,h2⟩:=Vals.get (i:=i) (x:=x) t (by simpa using e)
  exact ⟨u,by simpa using h1,h2⟩
theorem Vals.append:∀ {xs ys:List V} {us ws:List Value},Vals xs us->Vals ys ws->Vals (xs++ys) (us++ws)
 | _,_,_,_,.nil,s=>s
 | _,_,_,_,.cons r t,s=>.cons r (Vals.append t s)
theorem Vals.take:∀ {xs:List V} {us:List Value} (n:Nat),Vals xs us->Vals (xs.take n) (us.take n)
 | _,_,0,_=>.nil
 | _,_,_+1,.nil=>.nil
 | _,_,n+1,.cons r t=>.cons r (Vals.take n t)
theorem Vals.drop:∀ {xs:List V} {us:List Value} (n:Nat),Vals xs us->Vals (xs.drop n) (us.drop n)
 | _,_,0,r=>r
 | _,_,_+1,.nil=>.nil
 | _,_,n+1,.cons _ t=>Vals.drop n t
noncomputable def RelO:Option V->Option Value->Prop
 | some v,some u=>RelV v u
 | none,none=>True
 | _,_=>False
noncomputable def KV {κ:Type}:List (κ × V)->List (κ × Value)->Prop:=Paired fun (p:κ × V) (q:κ × Value)=>p.1=q.1/\RelV p.2 q.2
noncomputable def kV:Key->V
 | .inl i=>.int i
 | .inr x=>.str x
inductive HO where
  | lst (xs:List V)
  | tup (xs:List V)
  | dK (kvs:List (Key × V)) | dT (kvs:List (List Key × V))
  | set (S:Int->Bool) (n:Nat)
  | ins (C dx:Addr) (fs:List (Str × V))
  | own (x:Addr)
  | xd (fs:List (Str × V))
  | met (f x:Addr)
  | rng (lo hi:Int)
  | frz (o:Obj) (u:HO)
  | tbl (ps:Array Value)
  | ext (φ:Heap->Prop)
noncomputable abbrev Hp:=Addr->Option HO
noncomputable def upd (H:Hp) (a:Addr) (o:HO):Hp:=fun b=>if b=a then some o else H b
theorem Zd {H:Hp} {a:Addr} {o:HO}:upd H a o a=some o:=by unfold upd; rw [if_pos rfl]
theorem Zh {H:Hp} {a b:Addr} {o:HO} (h:b≠a):upd H a o b=H b:=by unfold upd; rw [if_neg h]
theorem Yi {H:Hp} {a b:Addr} {o u:HO} (h:H a=some o) (h':H b=some u) (d:o≠u):a≠b:=by
 intro e; subst e; rw [h] at h'; exact d (Option.some.inj h')
theorem Zm {H:Hp} {a b:Addr} {o:HO} (h:H a=some o) (h':H b=none):a≠b:=by
 intro e; subst e; rw [h] at h'; cases h'
noncomputable def IsTupN (h:Heap) (a:Addr) (items:Array Value):Prop:=∃ o,h.get? a=some o/\o.cls = .type "tuple" /\ ∃ n,(o.data,o.dict)=(.seq items n,none)
theorem IsTupN.is {h:Heap} {a:Addr} {items:Array Value} (x:IsTupN h a items):IsTup h a items:=let ⟨o,g,c,n,e⟩:=x; ⟨o,g,c,n,congrArg Prod.fst e⟩
theorem IsTupN.new (h:Heap) (items:Array Value):IsTupN (h.push { cls:=.type "tuple",data:=.seq items }) h.objs.size items:=⟨_,Heap.get?_push_size _ rfl,rfl,_,rfl⟩
section
variable (P:Program) (w:World)
noncomputable def ObjOk (H:Hp) (h:Heap) (a:Addr):HO->Prop
 | .lst xs=>xs.length<=sizeLine/\∃ (its:List Value) (n:Nat),Vals xs its/\h.get? a=some { cls:=.type "list",data:=.seq its.toArray n }
 | .tup xs=>xs.length<=sizeLine/\∃ its:List Value,Vals xs its/\IsTupN h a its.toArray
 | .dK kvs=>kvs.length<=sizeLine/\(a==sysModules)=false/\∃ vs,KV kvs vs/\h.DictOf (Yu P w) a vs
 | .dT kvs=>kvs.length<=sizeLine/\(a==sysModules)=false/\∃ xs:List (List Key × Addr × Value),
   Paired (fun (p:List Key × V) (q:List Key × Addr × Value)=>p.1=q.1/\H q.2.1=some (.tup (p.1.map kV))/\RelV p.2 q.2.2) kvs xs /\
   ∃ o es ep,h.get? a=some o/\o.ExactDict/\o.data = .dict es ep/\es.toList=xs.map (entryOfKey (tupleKind (Yu P w)))/\(xs.map (·.1)).Nodup
 | .set S n=>h.SetOf (intKind P w) a S n
 | .ins C dx fs=>H dx=some (.own a)/\fs.length<=1000/\dx≠a/\h.get? a=some (PySem.W.instObj C dx) /\
   ∃ mA,h.Ns1 dx mA/\(∀ f,RelO (fs.lookup f) (mA f))/\PySem.Within mA (fs.map (·.1))
 | .own _=>∃ o,h.get? a=some o
 | .xd fs=>∃ mA,h.Ns1 a mA/\∀ f,RelO (fs.lookup f) (mA f)
 | .rng lo hi=>∃ t u v,h.get? a=some { cls:=.type "range",data:=.fields #[.int lo t,.int hi u,.int 1 v] }
 | .frz o u=>h.get? a=some o/\ObjOk H h a u
 | .tbl ps=>∃ qs:Array Value,h.get? a=some { cls:=.none,data:=.fields qs }/\TriplesOk qs.toList/\∀ pos cv,codeAmong pos qs.toList=some cv->∃ (c':Addr) (oc:Obj) (vs:Array Value) (q:Str) (t:Tok),cv = .ref c'/\H c'=some (.own a)/\h.get? c'=some oc/\oc.data = .fields vs/\vs[1]? = some (.str q t)/\ps = #[.str q 0]
 | .met f x=>h.get? a=some (PySem.W.methodObj (.ref f) (.ref x))
 | .ext φ=>φ h/\(∃ o,h.get? a=some o)/\∀ h1 h2:Heap,φ h1->(∀ o,h1.get? a=some o->h2.get? a=some o)->φ h2
noncomputable def HOk (H:Hp) (h:Heap):Prop:=∀ a o,H a=some o->ObjOk P w H h a o
end
section
variable {P:Program} {w:World} {H H':Hp} {h h':Heap} {a:Addr} {o:HO}
theorem ObjOk.lt (x:ObjOk P w H h a o):a<h.objs.size:=by
 cases o with
 | lst xs=>obtain ⟨_,_,_,_,e⟩:=x; exact Heap.lt_size e
 | tup xs=>obtain ⟨_,_,_,p⟩:=x; exact IsTup.lt (IsTupN.is p)
 | dK kvs=>obtain ⟨_,_,_,_,o,_,_,e,_⟩:=x; exact Heap.lt_size e
 | dT kvs=>obtain ⟨_,_,_,_,o,_,_,e,_⟩:=x; exact Heap.lt_size e
 | set S n=>obtain ⟨o,_,_,_,e,_⟩:=x; exact Heap.lt_size e
 | ins C dx fs=>obtain ⟨_,_,_,e,_⟩:=x; exact Heap.lt_size e
 | own y=>obtain ⟨_,e⟩:=x; exact Heap.lt_size e
 | xd fs=>obtain ⟨_,⟨_,_,_,e,_⟩,_⟩:=x; exact Heap.lt_size e
 | rng lo hi=>obtain ⟨_,_,_,e⟩:=x; exact Heap.lt_size e
 | frz ob u=>obtain ⟨e,_⟩:=x; exact Heap.lt_size e
 | tbl ps=>obtain ⟨_,e,_⟩:=x; exact Heap.lt_size e
 | met f y=>exact Heap.lt_size (show h.get? a=some _ from x)
 | ext φ=>obtain ⟨_,⟨_,e⟩,_⟩:=x; exact Heap.lt_size e
theorem Paired.mapP {α β:Type} {F G:α->β->Prop}:∀ {l₁:List α} {l₂:List β},Paired F l₁ l₂->(∀ a b,F a b->G a b)->Paired G l₁ l₂
 | _,_,.nil,_=>.nil
 | _,_,.cons r t,f=>.cons (f _ _ r) (Paired.mapP t f)
theorem ObjOk.stay (x:ObjOk P w H h a o) (k:∀ b u,(b=a\/H b=some (.own a))->h.get? b=some u->h'.get? b=some u)
  (ho:∀ b,H b=some (.own a)->H' b=some (.own a)) (ht:∀ b xs,H b=some (.tup xs)->H' b=some (.tup xs)):ObjOk P w H' h' a o:=by
 induction o with
 | lst xs=>obtain ⟨z,its,n,r,e⟩:=x; exact ⟨z,its,n,r,k _ _ (.inl rfl) e⟩
 | tup xs=>obtain ⟨z,its,r,ob,e,c⟩:=x; exact ⟨z,its,r,ob,k _ _ (.inl rfl) e,c⟩
 | dK kvs=>obtain ⟨z,y,vs,r,ob,es,ep,e,c⟩:=x; exact ⟨z,y,vs,r,ob,es,ep,k _ _ (.inl rfl) e,c⟩
 | dT kvs =>
  obtain ⟨z,y,xs,r,ob,es,ep,e,c⟩:=x
  exact ⟨z,y,xs,Paired.mapP r fun p q z=>⟨z.1,ht _ _ z.2.1,z.2.2⟩,ob,es,ep,k _ _ (.inl rfl) e,c⟩
 | set S n=>obtain ⟨ob,es,ep,t,e,c⟩:=x; exact ⟨ob,es,ep,t,k _ _ (.inl rfl) e,c⟩
 | ins C dx fs =>
  obtain ⟨d,z,ne,e,mA,⟨od,es,ep,e2,c⟩,r⟩:=x
  exact ⟨ho _ d,z,ne,k _ _ (.inl rfl) e,mA,⟨od,es,ep,k _ _ (.inr d) e2,c⟩,r⟩
 | own y=>obtain ⟨ob,e⟩:=x; exact ⟨ob,k _ _ (.inl rfl) e⟩
 | xd fs=>obtain ⟨mA,⟨od,es,ep,e,c⟩,r⟩:=x; exact ⟨mA,⟨od,es,ep,k _ _ (.inl rfl) e,c⟩,r⟩
 | rng lo hi=>obtain ⟨t,u,v,e⟩:=x; exact ⟨t,u,v,k _ _ (.inl rfl) e⟩
 | frz ob u ih=>obtain ⟨e,q⟩:=x; exact ⟨k _ _ (.inl rfl) e,ih q⟩
 | tbl ps =>
  obtain ⟨qs,e,tr,al⟩:=x
  refine ⟨qs,k a _ (.inl rfl) e,tr,fun pos cv hq=>?_⟩
  obtain ⟨c',oc,vs,q,t,e1,e2,e3,r⟩:=al pos cv hq
  exact ⟨c',oc,vs,q,t,e1,ho _ e2,k _ _ (.inr e2) e3,r⟩
 | met f y =>
  have e:h.get? a=some (PySem.W.methodObj (.ref f) (.ref y)):=x
  show h'.get? a=some (PySem.W.methodObj (.ref f) (.ref y))
  exact k a _ (.inl rfl) e
 | ext φ=>obtain ⟨p,⟨o,e⟩,st⟩:=x; exact ⟨st _ _ p fun o q=>k _ _ (.inl rfl) q,⟨o,k _ _ (.inl rfl) e⟩,st⟩
theorem HOk.lt (x:HOk P w H h) (e:H a=some o):a<h.objs.size:=(x a o e).lt
theorem HOk.fresh (x:HOk P w H h) (e:h.objs.size<=a):H a=none:=by
 cases q:H a with
 | none=>rfl
 | some u=>exact absurd (Nat.lt_of_lt_of_le (x.lt q) e) (Nat.lt_irrefl _)
theorem HOk.kept (x:HOk P w H h) (k:∀ b u,h.get? b=some u->h'.get? b=some u):HOk P w H h':=fun a o e =>
 (x a o e).stay (fun b u _ q=>k b u q) (fun _ q=>q) fun _ _ q=>q
theorem HOk.laid (x:HOk P w H h) (k:∀ b u,h.get? b=some u->h'.get? b=some u) (hp:h.objs.size<=a) (new:ObjOk P w (upd H a o) h' a o):HOk P w (upd H a o) h':=fun b u e=>by
 have hn:=x.fresh hp
 by_cases hb:b=a
 ·subst hb; rw [Zd] at e; cases e; exact new
 ·rw [Zh hb] at e
  exact (x b u e).stay (fun c v _ q=>k c v q) (fun c q=>by rw [Zh (Zm q hn)]; exact q) fun c xs q=>by rw [Zh (Zm q hn)]; exact q
end
noncomputable def Rd (H:Hp) (a:Addr) (u:HO):Prop:=H a=some u\/∃ o,H a=some (.frz o u)
theorem Rd.ok {P:Program} {w:World} {H:Hp} {h:Heap} {a:Addr} {u:HO} (r:Rd H a u) (x:HOk P w H h):ObjOk P w H h a u:=by
 rcases r with r | ⟨o,r⟩
 ·exact x a u r
 ·obtain ⟨_,q⟩:=x a _ r
  exact q
noncomputable def Mut:Option HO->Prop
 | some (.lst _)=>True
 | some (.dK _)=>True
 | some (.dT _)=>True
 | some (.set _ _)=>True
 | some (.ins _ _ _)=>True
 | some (.ext _)=>True
 | _=>False
section
variable {P:Program} {w:World} {H:Hp} {h h':Heap} {x e:Addr} {o':HO}
theorem HOk.write (ok:HOk P w H h) (mu:Mut (H x)) (he:e=x\/H e=some (.own x)) (k:∀ b u,b≠e->h.get? b=some u->h'.get? b=some u) (heo:∃ u,h'.get? e=some u)
  (new:ObjOk P w (upd H x o') h' x o'):HOk P w (upd H x o') h':=fun b u q=>by
 have nown:∀ c y,H c=some (.own y)->c≠x:=fun c y r z=>by subst z; rw [r] at mu; exact mu
 have ntup:∀ c xs,H c=some (.tup xs)->c≠x:=fun c xs r z=>by subst z; rw [r] at mu; exact mu
 by_cases hb:b=x
 ·subst hb; rw [Zd] at q; cases q; exact new
 ·rw [Zh hb] at q
  by_cases hbe:b=e
  ·have q':H b=some (.own x):=by
    rcases he with z | z
    ·exact absurd (hbe.trans z) hb
    ·rw [hbe]; exact z
   rw [q] at q'; cases q'
   obtain ⟨v,hv⟩:=heo
   exact ⟨v,by rw [hbe]; exact hv⟩
  ·refine (ok b u q).stay (fun c v hc r=>k c v ?_ r) (fun c r=>by rw [Zh (nown c b r)]; exact r) fun c xs r=>by rw [Zh (ntup c xs r)]; exact r
   rcases hc with rfl | hc
   ·exact hbe
   ·rintro rfl
    rcases he with z | z
    ·exact nown c b hc z
    ·rw [hc] at z; cases z; exact hb rfl
end
structure Un (fs ex:List Addr) (H H':Hp) (h h':Heap):Prop where
 keep:∀ b o,h.get? b=some o->H b=none->b∉fs->b∉ex->h'.get? b=some o
 slot:∀ b o,h.get? b=some o->H b=none->b∈fs->b∉ex->∃ sl,h'.get? b=some { o with slots:=sl }
 free:∀ b o,h.get? b=some o->H b=none->b∉ex->H' b=none
 there:∀ b o,h.get? b=some o->b∉ex->∃ o',h'.get? b=some o'
 tups:∀ b xs,H b=some (.tup xs)->H' b=some (.tup xs)
 frzs:∀ b o u,H b=some (.frz o u)->H' b=some (.frz o u)
 tbls:∀ b ps,H b=some (.tbl ps)->∃ more,H' b=some (.tbl (ps++more))
section
variable {fs fs' ex ex':List Addr} {H H1 H2:Hp} {h h1 h2 h':Heap} {a x e:Addr} {o:HO}
theorem Un.any (u:Un fs ex H H1 h h1) {b:Addr} {ob:Obj} (q:h.get? b=some ob) (n:H b=none) (hx:b∉ex):∃ sl,h1.get? b=some { ob with slots:=sl }:=by
 by_cases hb:b∈fs
 ·exact u.slot b ob q n hb hx
 ·exact ⟨ob.slots,u.keep b ob q n hb hx⟩
theorem Un.trans (a:Un fs ex H H1 h h1) (b:Un fs ex H1 H2 h1 h2):Un fs ex H H2 h h2 where
 keep:=fun c ob q n hc hx=>b.keep c ob (a.keep c ob q n hc hx) (a.free c ob q n hx) hc hx
 slot:=fun c ob q n hc hx=>by
  obtain ⟨sl,e1⟩:=a.slot c ob q n hc hx
  obtain ⟨sl',e2⟩:=b.slot c _ e1 (a.free c ob q n hx) hc hx
  exact ⟨sl',e2⟩
 free:=fun c ob q n hx=>by
  obtain ⟨o',e1⟩:=a.there c ob q hx
  exact b.free c o' e1 (a.free c ob q n hx) hx
 there:=fun c ob q hx=>by
  obtain ⟨o',e1⟩:=a.there c ob q hx
  exact b.there c o' e1 hx
 tups:=fun c xs q=>b.tups c xs (a.tups c xs q)
 frzs:=fun c ob xs q=>b.frzs c ob xs (a.frzs c ob xs q)
 tbls:=fun c ps q=>by
  obtain ⟨m1,e1⟩:=a.tbls c ps q
  obtain ⟨m2,e2⟩:=b.tbls c _ e1
  exact ⟨m1++m2,by rw [e2,Array.append_assoc]⟩
theorem Un.kept (k:∀ b u,h.get? b=some u->h'.get? b=some u):Un fs ex H H h h' :=
 ⟨fun b ob q _ _ _=>k b ob q,fun b ob q _ _ _=>⟨ob.slots,k b ob q⟩,fun _ _ _ n _=>n,fun b ob q _=>⟨ob,k b ob q⟩,fun _ _ q=>q,fun _ _ _ q=>q,fun _ ps q=>⟨#[],by rw [q]; simp⟩⟩
theorem Un.refl:Un fs ex H H h h:=Un.kept fun _ _ q=>q
theorem Un.laid (k:∀ b u,h.get? b=some u->h'.get? b=some u) (hp:h.objs.size<=a) (hn:H a=none):Un fs ex H (upd H a o) h h' where
 keep:=fun b u q _ _ _=>k b u q
 slot:=fun b u q _ _ _=>⟨u.slots,k b u q⟩
 free:=fun b u q n _=>by rw [Zh (Nat.ne_of_lt (Nat.lt_of_lt_of_le (Heap.lt_size q) hp))]; exact n
 there:=fun b u q _=>⟨u,k b u q⟩
 tups:=fun b xs q=>by rw [Zh (Zm q hn)]; exact q
 frzs:=fun b u xs q=>by rw [Zh (Zm q hn)]; exact q
 tbls:=fun b ps q=>⟨#[],by rw [Zh (Zm q hn),q]; simp⟩
theorem Un.write (mu:Mut (H x)) (he:e=x\/H e=some (.own x)) (k:∀ b u,b≠e->h.get? b=some u->h'.get? b=some u) (heo:∃ u,h'.get? e=some u):Un fs ex H (upd H x o) h h':=by
 have hx:∀ b,H b=none->b≠x:=fun b n z=>by subst z; rw [n] at mu; exact mu
 have hb:∀ b,H b=none->b≠e:=fun b n z=>by
  subst z
  rcases he with r | r
  ·exact hx b n r
  ·rw [n] at r; cases r
 have hm:∀ b u,H b=some u->¬ Mut (some u)->b≠x:=fun b u q nm z=>by subst z; rw [q] at mu; exact nm mu
 refine ⟨fun b u q n _ _=>k b u (hb b n) q,fun b u q n _ _=>⟨u.slots,k b u (hb b n) q⟩,fun b u q n _=>by rw [Zh (hx b n)]; exact n,fun b u q _=>?_,
  fun b xs q=>by rw [Zh (hm b _ q fun z=>z)]; exact q,fun b u xs q=>by rw [Zh (hm b _ q fun z=>z)]; exact q,fun b ps q=>⟨#[],by rw [Zh (hm b _ q fun z=>z),q]; simp⟩⟩
 by_cases hbe:b=e
 ·subst hbe; exact heo
 ·exact ⟨u,k b u hbe q⟩
end
noncomputable def trk (h:Heap) (H:Hp):List Addr:=(List.range h.objs.size).filter fun a=>(H a).isSome
noncomputable def ZcB (h:Heap) (H:Hp):Heap:=PySem.W.hideAll h (trk h H)
theorem ZgQ (h:Heap) (H:Hp):(ZcB h H).objs.size=h.objs.size:=PySem.W.hideAll_size _ _
theorem ZaT {h:Heap} {H:Hp} {b:Addr} {o:Obj} (e:h.get? b=some o) (n:H b=none):(ZcB h H).get? b=some o :=
 PySem.W.hideAll_get _ e fun hm=>by
  have q:(H b).isSome=true:=(List.mem_filter.mp hm).2
  rw [n] at q; simp at q
theorem ZiW {h:Heap} {H:Hp} {b:Addr} {o:Obj} (e:(ZcB h H).get? b=some o):h.get? b=some o/\H b=none:=by
 have e':h.get? b=some o:=PySem.W.of_hideAll (trk h H) e
 refine ⟨e',?_⟩
 cases q:H b with
 | none=>rfl
 | some x =>
  have hm:b∈trk h H:=List.mem_filter.mpr ⟨List.mem_range.mpr (Heap.lt_size e'),by simp [q]⟩
  have z:(ZcB h H).get? b=none:=PySem.W.hideAll_none (trk h H) hm
  rw [z] at e; cases e
end L2
namespace L2
open PySem PySem.Spec PyProof.Rows
structure Mod (K:PySem.W.Frag) (mg:Str->Option Value) (base:Heap):Prop where
 kin:K.In base
 glob:base.Ns mainGlobals mg
 blt:∃ mb,base.Ns builtinsNs mb/\∀ x:Str,x ≠ "__name__" -> mb x=bootBuiltins x
 nolimit:base.NoLimit
structure Cx where
 prog:Program
 w:World
 K:PySem.W.Frag
 mg:Str->Option Value
 base:Heap
 A:Around
 N:List Str
 s₀:Shared
 H₀:Hp
 env:Env
 outer:List Env
 stack:List Env
 ex:List Addr
 fn:Str->Bool
 calm:Bool
 pn:List (Addr × Obj)
 xe:Value->Shared->Prop
noncomputable def frs (l:List Env):List Addr:=l.filterMap (·.frame)
noncomputable abbrev Cx.fs (X:Cx):List Addr:=frs X.outer
noncomputable def Vis (sc:Scope) (x:Str):Prop:=sc.names.lookup x=some .local\/sc.names.lookup x=some .cell\/sc.names.lookup x=some .free
noncomputable def Loc (sc:Scope) (x:Str):Prop:=sc.names.lookup x=some .local\/sc.names.lookup x=some .cell
noncomputable def Zls (env:Env) (h:Heap) (m:Str->Option Value) (x:Str) (u:Value):Prop :=
 (env.kindOf x=some .local/\m x=some u)\/((env.kindOf x=some .cell\/env.kindOf x=some .free)/\∃ c,env.cells.lookup x=some c/\h.IsCell c (some u))
structure Cx.Ok (X:Cx):Prop where
 mod:Mod X.K X.mg X.base
 kind:X.env.scope.kind = .function
 glob:X.env.globals=mainGlobals
 blt:X.env.builtins=builtinsNs
 above:X.s₀.heap.objs.size<=X.env.locals
 inj:∀ x y c,X.env.cells.lookup x=some c->X.env.cells.lookup y=some c->x=y
 has:∀ x,(X.env.kindOf x=some .cell\/X.env.kindOf x=some .free)->∃ c,X.env.cells.lookup x=some c
 cab:∀ x c,X.fn x=true->X.env.cells.lookup x=some c->X.s₀.heap.objs.size<=c
 hd:X.calm=true->X.A.handled=none
 frames:X.A.frames=some X.stack
 stk:X.stack=X.outer\/(X.stack=X.env::X.outer/\X.env.frame=some X.env.locals)
 exf:∀ b∈X.ex,b≠X.env.locals/\∀ x c,X.env.cells.lookup x=some c->c≠b
 bs:∀ b o,X.base.get? b=some o->X.s₀.heap.get? b=some o/\X.H₀ b=none
 bsz:X.base.objs.size<=X.s₀.heap.objs.size
 noex:∀ b o,X.base.get? b=some o->b∉X.ex
 exfs:∀ b∈X.ex,b∉X.fs
 funs:X.s₀.heap.FunFrames X.base X.outer
 frf:∀ b∈X.fs,X.H₀ b=none
structure Inv (X:Cx) (pins:List (Addr × Obj)) (σ:List (Option V)) (H:Hp) (s:Shared):Prop where
 ok:X.Ok
 os:s.os=X.s₀.os
 bare:AllBare s.gens
 base:Un X.fs X.ex X.H₀ H X.s₀.heap s.heap
 loc:∃ m,s.heap.Ns X.env.locals m/\∀ (i:Nat) (x:Str) (v:V),X.N[i]? = some x->σ[i]? = some (some v)->Vis X.env.scope x->∃ u,RelV v u/\Zls X.env s.heap m x u
 cell:∀ x c,X.env.cells.lookup x=some c->∃ v,s.heap.IsCell c v
 free:H X.env.locals=none
 freeC:∀ x c,X.env.cells.lookup x=some c->H c=none
 pin:∀ p∈X.pn++pins,s.heap.get? p.1=some p.2/\H p.1=none/\p.1≠X.env.locals/\p.1∉X.fs/\∀ v,p.2.data ≠ .cell v
 hok:HOk X.prog X.w H s.heap
 len:σ.length=X.N.length
section
variable {X:Cx} {pins:List (Addr × Obj)} {σ:List (Option V)} {H H':Hp} {s:Shared} {h':Heap}
theorem Cx.Ok.nofr (ok:X.Ok) {b:Addr} {o:Obj} (e:X.base.get? b=some o):b∉X.fs:=fun hb=>by
 have:=(ok.funs.mem hb).1
 rw [e] at this; cases this
theorem Inv.bs (I:Inv X pins σ H s):∀ b o,X.base.get? b=some o->s.heap.get? b=some o/\H b=none:=fun b o e =>
 ⟨I.base.keep b o (I.ok.bs b o e).1 (I.ok.bs b o e).2 (I.ok.nofr e) (I.ok.noex b o e),I.base.free b o (I.ok.bs b o e).1 (I.ok.bs b o e).2 (I.ok.noex b o e)⟩
theorem Inv.bk (I:Inv X pins σ H s):∀ b o,X.base.get? b=some o->s.heap.get? b=some o:=fun b o e=>(I.bs b o e).1
theorem Inv.mod (I:Inv X pins σ H s):Mod X.K X.mg X.base:=I.ok.mod
theorem Inv.kIn (I:Inv X pins σ H s):X.K.In s.heap:=I.ok.mod.kin.keeps I.bk
theorem Inv.lt (I:Inv X pins σ H s):X.env.locals<s.heap.objs.size:=let ⟨_,hn,_⟩:=I.loc; hn.lt
theorem Inv.sz (I:Inv X pins σ H s):X.s₀.heap.objs.size<=s.heap.objs.size:=Nat.le_trans I.ok.above (Nat.le_of_lt I.lt)
theorem Inv.nofs (I:Inv X pins σ H s) {a:Addr} (h:s.heap.objs.size<=a):a∉X.fs:=fun hb=>by
 obtain ⟨_,o,ho,_⟩:=I.ok.funs.mem hb
 exact absurd (Nat.lt_of_lt_of_le (Heap.lt_size ho) (Nat.le_trans I.sz h)) (Nat.lt_irrefl _)
theorem Inv.cne (I:Inv X pins σ H s):∀ x c,X.env.cells.lookup x=some c->c≠X.env.locals:=fun x c e z=>by
 obtain ⟨v,o,ho,hd⟩:=I.cell x c e
 obtain ⟨m,⟨o',es,ep,ho',hd',_⟩,_⟩:=I.loc
 rw [z,ho'] at ho; cases ho; rw [hd'] at hd; cases hd
theorem Inv.funs (I:Inv X pins σ H s):s.heap.FunFrames X.base X.outer:=by
 have all:∀ (l:List Env),(∀ b∈frs l,b∈X.fs)->X.s₀.heap.FunFrames X.base l->s.heap.FunFrames X.base l:=by
  intro l
  induction l with
  | nil=>intro _ _; trivial
  | cons env r ih =>
   intro hs hl
   obtain ⟨hk,⟨L,o,hf,hn,ho,hd⟩,hr⟩:=hl
   have hL:L∈X.fs:=hs L (by unfold frs; rw [List.filterMap_cons,hf]; exact List.mem_cons_self)
   obtain ⟨sl,e⟩:=I.base.slot L o ho (I.ok.frf L hL) hL fun z=>I.ok.exfs L z hL
   exact ⟨hk,⟨L,_,hf,hn,e,hd⟩,ih (fun b hb=>hs b (by unfold frs; rw [List.filterMap_cons,hf]; exact List.mem_cons_of_mem _ hb)) hr⟩
 exact all X.outer (fun _ hb=>hb) I.ok.funs
theorem Inv.stack (I:Inv X pins σ H s):s.heap.FunFrames X.base X.stack:=by
 rcases I.ok.stk with e | ⟨e,hf⟩
 ·rw [e]; exact I.funs
 ·rw [e]
  obtain ⟨m,hn,_⟩:=I.loc
  refine .cons (by rw [I.ok.kind]; decide) hf hn ?_ I.funs
  exact Heap.get?_none_of_le (Nat.le_trans I.ok.bsz I.ok.above)
theorem Inv.stkSub (I:Inv X pins σ H s):∀ b∈frs X.stack,b∈X.env.locals::X.fs:=fun b hb=>by
 rcases I.ok.stk with e | ⟨e,hf⟩
 ·rw [e] at hb; exact List.mem_cons_of_mem _ hb
 ·rw [e] at hb
  unfold frs at hb
  rw [List.filterMap_cons,hf] at hb
  exact hb
theorem Inv.stkFree (I:Inv X pins σ H s):∀ b∈frs X.stack,H b=none:=fun b hb=>by
 rcases List.mem_cons.mp (I.stkSub b hb) with e | hb
 ·rw [e]; exact I.free
 ·obtain ⟨_,o,ho,_⟩:=I.ok.funs.mem hb
  exact I.base.free b o ho (I.ok.frf b hb) fun z=>I.ok.exfs b z hb
theorem Inv.step {g':Array GenState} {t':Nat} {d':Drawn} {ch:List Addr} (I:Inv X pins σ H s)
  (hch:∀ b∈ch,(b∈X.ex\/X.s₀.heap.objs.size<=b)/\b≠X.env.locals/\(∀ x c,X.env.cells.lookup x=some c->c≠b)/\∀ p∈X.pn++pins,p.1≠b)
  (keep:∀ b o,b≠X.env.locals->b∉X.fs->b∉ch->s.heap.get? b=some o->H b=none->h'.get? b=some o)
  (slot:∀ b o,b≠X.env.locals->b∈X.fs->b∉ch->s.heap.get? b=some o->H b=none->∃ sl,h'.get? b=some { o with slots:=sl }) (free:∀ b o,b∉ch->s.heap.get? b=some o->H b=none->H' b=none)
  (there:∀ b o,b∉ch->s.heap.get? b=some o->∃ o',h'.get? b=some o')
  (tups:∀ b xs,H b=some (.tup xs)->H' b=some (.tup xs)) (frzs:∀ b o u,H b=some (.frz o u)->H' b=some (.frz o u)) (tbls:∀ b ps,H b=some (.tbl ps)->∃ more,H' b=some (.tbl (ps++more)))
  (ns:∀ m,s.heap.Ns X.env.locals m->h'.Ns X.env.locals m) (hok:HOk X.prog X.w H' h') (hg:AllBare g') :
  Inv X pins σ H' { s with heap:=h',gens:=g',drawn:=d',toks:=t' }:=by
 have neL:∀ b o,X.s₀.heap.get? b=some o->b≠X.env.locals:=fun b o e=>Nat.ne_of_lt (Nat.lt_of_lt_of_le (Heap.lt_size e) I.ok.above)
 have neC:∀ b o,X.s₀.heap.get? b=some o->b∉X.ex->b∉ch:=fun b o e hx hb=>by
  rcases (hch b hb).1 with z | z
  ·exact hx z
  ·exact absurd (Nat.lt_of_lt_of_le (Heap.lt_size e) z) (Nat.lt_irrefl _)
 have cellK:∀ x c,X.env.cells.lookup x=some c->∀ v,s.heap.IsCell c v->h'.IsCell c v:=fun x c e v ⟨o,ho,hd⟩=>by
  have nch:c∉ch:=fun z=>(hch c z).2.2.1 x c e rfl
  by_cases hc:c∈X.fs
  ·obtain ⟨sl,q⟩:=slot c o (I.cne x c e) hc nch ho (I.freeC x c e)
   exact ⟨_,q,hd⟩
  ·exact ⟨o,keep c o (I.cne x c e) hc nch ho (I.freeC x c e),hd⟩
 refine ⟨I.ok,I.os,hg,⟨fun b o e n hb hx=>?_,fun b o e n hb hx=>?_,fun b o e n hx=>?_,fun b o e hx=>?_,fun b xs e=>tups b xs (I.base.tups b xs e),fun b o xs e=>frzs b o xs (I.base.frzs b o xs e),fun b ps e=>?_⟩,?_,fun x c e=>?_,?_,fun x c e=>?_,fun p hp=>?_,hok,I.len⟩
 ·exact keep b o (neL b o e) hb (neC b o e hx) (I.base.keep b o e n hb hx) (I.base.free b o e n hx)
 ·obtain ⟨sl,e1⟩:=I.base.slot b o e n hb hx
  obtain ⟨sl',e2⟩:=slot b _ (neL b o e) hb (neC b o e hx) e1 (I.base.free b o e n hx)
  exact ⟨sl',e2⟩
 ·obtain ⟨o',e1⟩:=I.base.there b o e hx
  exact free b o' (neC b o e hx) e1 (I.base.free b o e n hx)
 ·obtain ⟨o',e1⟩:=I.base.there b o e hx
  exact there b o' (neC b o e hx) e1
 ·obtain ⟨m1,e1⟩:=I.base.tbls b ps e
  obtain ⟨m2,e2⟩:=tbls b _ e1
  exact ⟨m1++m2,by rw [e2,Array.append_assoc]⟩
 ·obtain ⟨m,hn,hl⟩:=I.loc
  refine ⟨m,ns m hn,fun i x v e1 e2 e3=>?_⟩
  obtain ⟨u,r,l⟩:=hl i x v e1 e2 e3
  refine ⟨u,r,?_⟩
  rcases l with l | ⟨k,c,e,z⟩
  ·exact .inl l
  ·exact .inr ⟨k,c,e,cellK x c e _ z⟩
 ·obtain ⟨v,z⟩:=I.cell x c e
  exact ⟨v,cellK x c e v z⟩
 ·obtain ⟨m,⟨o,_,_,ho,_⟩,_⟩:=I.loc
  exact free _ o (fun z=>(hch _ z).2.1 rfl) ho I.free
 ·obtain ⟨v,o,ho,hd⟩:=I.cell x c e
  exact free c o (fun z=>(hch c z).2.2.1 x c e rfl) ho (I.freeC x c e)
 ·obtain ⟨e,n,ne,nf,d⟩:=I.pin p hp
  have nch:p.1∉ch:=fun z=>(hch p.1 z).2.2.2 p hp rfl
  exact ⟨keep p.1 p.2 ne nf nch e n,free p.1 p.2 nch e n,ne,nf,d⟩
theorem Inv.un {t':Nat} (I:Inv X pins σ H s) (u:Un X.fs [] H H' s.heap h') (hok:HOk X.prog X.w H' h'):Inv X pins σ H' { s with heap:=h',toks:=t' }:=by
 obtain ⟨m,⟨o,es,ep,ho,r⟩,_⟩:=id I.loc
 obtain ⟨sl,hL⟩:=u.any ho I.free (by simp)
 exact I.step (g':=s.gens) (d':=s.drawn) (ch:=[]) (fun _ z=>nomatch z) (fun b o _ hb _ e n=>u.keep b o e n hb (by simp)) (fun b o _ hb _ e n=>u.slot b o e n hb (by simp)) (fun b o _ e n=>u.free b o e n (by simp)) (fun b o _ e=>u.there b o e (by simp)) u.tups u.frzs u.tbls (fun m' hm=>by
  obtain ⟨o',es',ep',ho',r'⟩:=hm
  rw [ho] at ho'; cases ho'
  exact ⟨_,es',ep',hL,r'⟩) hok I.bare
theorem Inv.call {g':Array GenState} {t':Nat} {d':Drawn} {ch:List Addr} (I:Inv X pins σ H s) (u:Un (frs X.stack) ch H H' s.heap h') (hok:HOk X.prog X.w H' h') (hg:AllBare g')
  (hch:∀ b∈ch,(b∈X.ex\/X.s₀.heap.objs.size<=b)/\b≠X.env.locals/\(∀ x c,X.env.cells.lookup x=some c->c≠b)/\∀ p∈X.pn++pins,p.1≠b) :
  Inv X pins σ H' { s with heap:=h',gens:=g',drawn:=d',toks:=t' }:=by
 obtain ⟨m,⟨o,es,ep,ho,r⟩,_⟩:=id I.loc
 obtain ⟨sl,hL⟩:=u.any ho I.free fun z=>(hch _ z).2.1 rfl
 exact I.step (ch:=ch) hch (fun b o hL hb hc e n=>u.keep b o e n (fun z=>(List.mem_cons.mp (I.stkSub b z)).elim hL hb) hc) (fun b o _ _ hc e n=>u.any e n hc) (fun b o hc e n=>u.free b o e n hc) (fun b o hc e=>u.there b o e hc) u.tups u.frzs u.tbls (fun m' hm=>by
  obtain ⟨o',es',ep',ho',r'⟩:=hm
  rw [ho] at ho'; cases ho'
  exact ⟨_,es',ep',hL,r'⟩) hok hg
theorem Inv.turned {t':Nat} {it:Addr} (I:Inv X pins σ H s) (k:∀ b o,b≠it->s.heap.get? b=some o->h'.get? b=some o) (hn:H it=none) (hL:it≠X.env.locals)
  (h1:it∈X.ex\/X.s₀.heap.objs.size<=it) (h2:∀ x c,X.env.cells.lookup x=some c->c≠it) (h3:∀ p∈X.pn++pins,p.1≠it):Inv X pins σ H { s with heap:=h',toks:=t' }:=by
 have nit:∀ b u,H b=some u->b≠it:=fun b u e z=>by rw [z,hn] at e; cases e
 refine I.step (g':=s.gens) (d':=s.drawn) (ch:=[it]) (fun b hb=>?_) (fun b o _ _ hc e _=>k b o (fun z=>hc (by simp [z])) e) (fun b o _ _ hc e _=>⟨o.slots,k b o (fun z=>hc (by simp [z])) e⟩) (fun _ _ _ _ n=>n)
  (fun b o hc e=>⟨o,k b o (fun z=>hc (by simp [z])) e⟩) (fun _ _ e=>e) (fun _ _ _ e=>e) (fun b ps e=>⟨#[],by rw [e]; simp⟩) (fun m hm=>?_) (fun b u e=>?_) I.bare
 ·have e:b=it:=by simpa using hb
  subst e
  exact ⟨h1,hL,h2,h3⟩
 ·obtain ⟨o,es,ep,ho,r⟩:=hm
  exact ⟨o,es,ep,k _ o (Ne.symm hL) ho,r⟩
 ·refine (I.hok b u e).stay (fun c v hc q=>k c v ?_ q) (fun _ q=>q) fun _ _ q=>q
  rcases hc with z | z
  ·rw [z]; exact nit b u e
  ·exact nit c _ z
theorem Inv.tok (I:Inv X pins σ H s) (t:Nat):Inv X pins σ H { s with toks:=t }:=I.un (h':=s.heap) (t':=t) Un.refl I.hok
theorem Inv.kept {t':Nat} (I:Inv X pins σ H s) (k:∀ b u,s.heap.get? b=some u->h'.get? b=some u):Inv X pins σ H { s with heap:=h',toks:=t' }:=I.un (Un.kept k) (I.hok.kept k)
theorem Inv.laid {a:Addr} {o:HO} {t':Nat} (I:Inv X pins σ H s) (k:∀ b u,s.heap.get? b=some u->h'.get? b=some u) (hp:s.heap.objs.size<=a) (new:ObjOk X.prog X.w (upd H a o) h' a o) :
  Inv X pins σ (upd H a o) { s with heap:=h',toks:=t' }:=I.un (Un.laid k hp (I.hok.fresh hp)) (I.hok.laid k hp new)
theorem Inv.write {x e:Addr} {o:HO} {t':Nat} (I:Inv X pins σ H s) (mu:Mut (H x)) (he:e=x\/H e=some (.own x)) (k:∀ b u,b≠e->s.heap.get? b=some u->h'.get? b=some u) (heo:∃ u,h'.get? e=some u)
  (new:ObjOk X.prog X.w (upd H x o) h' x o):Inv X pins σ (upd H x o) { s with heap:=h',toks:=t' }:=I.un (Un.write mu he k heo) (I.hok.write mu he k heo new)
theorem Inv.pins_of {pins':List (Addr × Obj)} (I:Inv X pins σ H s) (h:∀ p∈pins',s.heap.get? p.1=some p.2/\H p.1=none/\p.1≠X.env.locals/\p.1∉X.fs/\∀ v,p.2.data ≠ .cell v):Inv X pins' σ H s :=
 ⟨I.ok,I.os,I.bare,I.base,I.loc,I.cell,I.free,I.freeC,fun p hp=>(List.mem_append.mp hp).elim (fun z=>I.pin p (List.mem_append_left _ z)) (h p),I.hok,I.len⟩
theorem Zea {N:List Str} (hN:N.Nodup) {i j:Nat} {x:Str} (a:N[i]? = some x) (b:N[j]? = some x):i=j:=by
 obtain ⟨h1,e1⟩:=List.getElem?_eq_some_iff.mp a
 obtain ⟨h2,e2⟩:=List.getElem?_eq_some_iff.mp b
 exact (List.getElem_inj hN).mp (e1.trans e2.symm)
theorem ZcK {M:Model} {A:Around} {E:Value->Shared->Prop} {i:Nat} {x:Str} {v:V} {u:Value} {Q:Unit->Shared->Prop} (I:Inv X pins σ H s) (hN:X.N.Nodup) (hi:X.N[i]? = some x) (hx:Loc X.env.scope x) (r:RelV v u)
  (h:∀ s',Inv X pins (σ.set i (some v)) H s'->(∃ a,Heap.SameBut a s.heap s'.heap/\(a=X.env.locals\/X.env.cells.lookup x=some a))->Q () s') (hf:X.fn x=true\/X.env.scope.names.lookup x=some .local:=by first | exact .inl rfl | exact .inr rfl | assumption):wpAny M A (storeName X.env x u) Q E s:=by
 obtain ⟨m,hn,hl⟩:=id I.loc
 have hcls:(X.env.scope.kind == .class||(X.env.scope.kind == .module&&X.env.locals != X.env.globals))=false:=by rw [I.ok.kind]; rfl
 have hiσ:i<σ.length:=by rw [I.len]; exact (List.getElem?_eq_some_iff.mp hi).1
 have cne:=I.cne
 have tracked:∀ {a:Addr} {h':Heap},(∃ o,s.heap.get? a=some o/\H a=none)->Heap.SameBut a s.heap h'->HOk X.prog X.w H h':=fun {a h'} ha hs b ob e=>by
  obtain ⟨_,_,hfree⟩:=ha
  refine (I.hok b ob e).stay (fun c w' hc q=>(hs.2 c ?_).trans q) (fun _ q=>q) fun _ _ q=>q
  rintro rfl
  rcases hc with rfl | hc
  ·rw [hfree] at e; cases e
  ·rw [hfree] at hc; cases hc
 rcases hx with hk | hk
 ·refine wpAny_storeName_local hk hn (fun h' hn' hs=>?_) hcls
  obtain ⟨oL,_,_,hoL,_⟩:=id hn
  refine h _ ⟨I.ok,I.os,I.bare,⟨fun b o e n hb hx=>?_,fun b o e n hb hx=>?_,I.base.free,fun b o e hx=>?_,I.base.tups,I.base.frzs,I.base.tbls⟩,⟨_,hn',fun j y v' e1 e2 e3=>?_⟩,fun y c e=>?_,I.free,I.freeC,fun p hp=>?_,tracked ⟨oL,hoL,I.free⟩ hs,by simpa using I.len⟩ ⟨_,hs,.inl rfl⟩
  ·exact (hs.2 b (Nat.ne_of_lt (Nat.lt_of_lt_of_le (Heap.lt_size e) I.ok.above))).trans (I.base.keep b o e n hb hx)
  ·obtain ⟨sl,e1⟩:=I.base.slot b o e n hb hx
   exact ⟨sl,(hs.2 b (Nat.ne_of_lt (Nat.lt_of_lt_of_le (Heap.lt_size e) I.ok.above))).trans e1⟩
  ·obtain ⟨o',e1⟩:=I.base.there b o e hx
   exact ⟨o',(hs.2 b (Nat.ne_of_lt (Nat.lt_of_lt_of_le (Heap.lt_size e) I.ok.above))).trans e1⟩
  ·by_cases hj:j=i
   ·subst hj
    rw [hi] at e1; cases e1
    rw [List.getElem?_set_self hiσ] at e2
    cases e2
    exact ⟨u,r,.inl ⟨hk,by simp⟩⟩
   ·rw [List.getElem?_set_ne (Ne.symm hj)] at e2
    obtain ⟨u',r',q⟩:=hl j y v' e1 e2 e3
    refine ⟨u',r',?_⟩
    rcases q with ⟨k,e⟩ | ⟨k,c,e,z⟩
    ·refine .inl ⟨k,?_⟩
     have:y≠x:=fun e=>hj (Zea hN e1 (e ▸ hi))
     simp [this,e]
    ·exact .inr ⟨k,c,e,z.sameBut hs (cne y c e)⟩
  ·obtain ⟨w',z⟩:=I.cell y c e
   exact ⟨w',z.sameBut hs (cne y c e)⟩
  ·obtain ⟨e,n,ne,nf,d⟩:=I.pin p hp
   exact ⟨(hs.2 p.1 ne).trans e,n,ne,nf,d⟩
 ·have hfn:X.fn x=true:=by
   rcases hf with z | z
   ·exact z
   ·rw [z] at hk; cases hk
  obtain ⟨c,hc⟩:=I.ok.has x (.inl hk)
  obtain ⟨w',z⟩:=I.cell x c hc
  refine wpAny_storeName_cell I.ok.kind hk hc z (fun h' hc' hs=>?_)
  obtain ⟨oc,hoc,hocd⟩:=id z
  refine h { s with heap:=h' } ⟨I.ok,I.os,I.bare,⟨fun b o e n hb hx=>?_,fun b o e n hb hx=>?_,I.base.free,fun b o e hx=>?_,I.base.tups,I.base.frzs,I.base.tbls⟩,⟨m,hn.sameBut hs (Ne.symm (cne x c hc)),fun j y v' e1 e2 e3=>?_⟩,fun y c' e=>?_,I.free,I.freeC,fun p hp=>?_,tracked ⟨oc,hoc,I.freeC x c hc⟩ hs,by simpa using I.len⟩ ⟨c,hs,.inr hc⟩
  ·exact (hs.2 b (Nat.ne_of_lt (Nat.lt_of_lt_of_le (Heap.lt_size e) (I.ok.cab x c hfn hc)))).trans (I.base.keep b o e n hb hx)
  ·obtain ⟨sl,e1⟩:=I.base.slot b o e n hb hx
   exact ⟨sl,(hs.2 b (Nat.ne_of_lt (Nat.lt_of_lt_of_le (Heap.lt_size e) (I.ok.cab x c hfn hc)))).trans e1⟩
  ·obtain ⟨o',e1⟩:=I.base.there b o e hx
   exact ⟨o',(hs.2 b (Nat.ne_of_lt (Nat.lt_of_lt_of_le (Heap.lt_size e) (I.ok.cab x c hfn hc)))).trans e1⟩
  ·by_cases hj:j=i
   ·subst hj
    rw [hi] at e1; cases e1
    rw [List.getElem?_set_self hiσ] at e2
    cases e2
    exact ⟨u,r,.inr ⟨.inl hk,c,hc,hc'⟩⟩
   ·rw [List.getElem?_set_ne (Ne.symm hj)] at e2
    obtain ⟨u',r',q⟩:=hl j y v' e1 e2 e3
    refine ⟨u',r',?_⟩
    rcases q with q | ⟨k,c',e,z'⟩
    ·exact .inl q
    ·refine .inr ⟨k,c',e,z'.sameBut hs ?_⟩
     rintro rfl
     exact hj (Zea hN e1 (I.ok.inj _ _ _ e hc ▸ hi))
  ·by_cases hcc:c'=c
   ·subst hcc; exact ⟨_,hc'⟩
   ·obtain ⟨w2,z2⟩:=I.cell y c' e
    exact ⟨w2,z2.sameBut hs hcc⟩
  ·obtain ⟨e,n,ne,nf,d⟩:=I.pin p hp
   refine ⟨(hs.2 p.1 ?_).trans e,n,ne,nf,d⟩
   intro q
   rw [q,hoc] at e
   have q':oc=p.2:=Option.some.inj e
   exact d w' (by rw [<- q']; exact hocd)
theorem ZdW {M:Model} {A:Around} {E:Value->Shared->Prop} {i:Nat} {x:Str} {v:V} {u:Value} {Q:Unit->Shared->Prop} (I:Inv X pins σ H s) (hN:X.N.Nodup) (hi:X.N[i]? = some x) (hx:Loc X.env.scope x) (r:RelV v u)
  (h:∀ s',Inv X pins (σ.set i (some v)) H s'->Q () s') (hf:X.fn x=true\/X.env.scope.names.lookup x=some .local:=by first | exact .inl rfl | exact .inr rfl | assumption):wpAny M A (storeName X.env x u) Q E s :=
 ZcK I hN hi hx r (fun s' I' _=>h s' I') hf
theorem Inv.call' {s':Shared} {ch:List Addr} (I:Inv X pins σ H s) (ho:s'.os=s.os) (u:Un (frs X.stack) ch H H' s.heap s'.heap) (hok:HOk X.prog X.w H' s'.heap) (hg:AllBare s'.gens)
  (hch:∀ b∈ch,(b∈X.ex\/X.s₀.heap.objs.size<=b)/\b≠X.env.locals/\(∀ x c,X.env.cells.lookup x=some c->c≠b)/\∀ p∈X.pn++pins,p.1≠b):Inv X pins σ H' s':=by
 obtain ⟨h',g',d',t',o'⟩:=s'
 have e:o'=s.os:=ho
 subst e
 exact I.call (g':=g') (t':=t') (d':=d') u hok hg hch
end
noncomputable abbrev XK:=Value->Option Addr->Hp->Prop
noncomputable abbrev St:=List (Option V)
noncomputable abbrev VK:=V->Hp->Prop
noncomputable abbrev TE:=St->Hp->VK->Prop
noncomputable abbrev TT:=St->Hp->(Bool->Hp->Prop)->Prop
noncomputable abbrev TA:=St->Hp->(List V->Hp->Prop)->Prop
structure ZbF where
 nx:St->Hp->Prop
 rt:VK
 bk:St->Hp->Prop:=fun _ _=>False
 ct:St->Hp->Prop:=fun _ _=>False
noncomputable abbrev TS:=ZbF->St->Hp->Prop
noncomputable def EP (X:Cx) (pins:List (Addr × Obj)) (σ:St) (Q:VK) (u:Value) (s':Shared):Prop:=∃ v H',Inv X pins σ H' s'/\RelV v u/\Q v H'
noncomputable def TP (X:Cx) (pins:List (Addr × Obj)) (σ:St) (Q:Bool->Hp->Prop) (b:Bool) (s':Shared):Prop:=∃ H',Inv X pins σ H' s'/\Q b H'
noncomputable def AP (X:Cx) (pins:List (Addr × Obj)) (σ:St) (Q:List V->Hp->Prop) (us:List Value) (s':Shared):Prop:=∃ vs H',Inv X pins σ H' s'/\Vals vs us/\Q vs H'
noncomputable def SP (X:Cx) (pins:List (Addr × Obj)) (D:ZbF) (f:Flow) (s':Shared):Prop :=
 match f with
 | .next=>∃ σ' H',Inv X pins σ' H' s'/\D.nx σ' H'
 | .brk=>∃ σ' H',Inv X pins σ' H' s'/\D.bk σ' H'
 | .cont=>∃ σ' H',Inv X pins σ' H' s'/\D.ct σ' H'
 | .ret u=>∃ v σ' H',Inv X pins σ' H' s'/\RelV v u/\D.rt v H'
noncomputable def PE (X:Cx) (e:Expr) (t:TE):Prop :=
 ∀ (pins:List (Addr × Obj)) (s:Shared) (σ:St) (H:Hp) (Q:VK),Inv X pins σ H s->t σ H Q->wpAny (model X.prog X.w) X.A (eval e X.env) (EP X pins σ Q) X.xe s
noncomputable def PT (X:Cx) (e:Expr) (t:TT):Prop :=
 ∀ (pins:List (Addr × Obj)) (s:Shared) (σ:St) (H:Hp) (Q:Bool->Hp->Prop),Inv X pins σ H s->t σ H Q->wpAny (model X.prog X.w) X.A (isTrue e X.env (eval e X.env)) (TP X pins σ Q) X.xe s
noncomputable def PW (X:Cx) (e:Expr) (t:TT):Prop :=
 ∀ (whole:Sem Value) (pins:List (Addr × Obj)) (s:Shared) (σ:St) (H:Hp) (Q:Bool->Hp->Prop),Inv X pins σ H s->t σ H Q->wpAny (model X.prog X.w) X.A (isTrue e X.env whole) (TP X pins σ Q) X.xe s
theorem PW.pt {X:Cx} {e:Expr} {t:TT} (h:PW X e t):PT X e t:=h _
noncomputable def PA (X:Cx) (es:List Expr) (t:TA):Prop :=
 ∀ (pos:Pos) (pins:List (Addr × Obj)) (s:Shared) (σ:St) (H:Hp) (Q:List V->Hp->Prop),Inv X pins σ H s->t σ H Q->wpAny (model X.prog X.w) X.A (spliced (backTo pos (starEach es X.env))) (AP X pins σ Q) X.xe s
noncomputable def PS (X:Cx) (st:Stmt) (t:TS):Prop :=
 ∀ (pins:List (Addr × Obj)) (s:Shared) (σ:St) (H:Hp) (D:ZbF),Inv X pins σ H s->t D σ H->wpAny (model X.prog X.w) X.A (exec st X.env) (SP X pins D) X.xe s
noncomputable def PSs (X:Cx) (st:List Stmt) (t:TS):Prop :=
 ∀ (pins:List (Addr × Obj)) (s:Shared) (σ:St) (H:Hp) (D:ZbF),Inv X pins σ H s->t D σ H->wpAny (model X.prog X.w) X.A (execs st X.env) (SP X pins D) X.xe s
theorem thn {α:Type} {t:Sem α} {Q Q':α->Shared->Prop} {M:Model} {A:Around} {E:Value->Shared->Prop} {s:Shared} (h:wpAny M A t Q E s) (hQ:∀ a s,Q a s->Q' a s):wpAny M A t Q' E s:=wpAny_mono h hQ fun _ _ x=>x
end L2
namespace L2
open PySem PySem.Spec PyProof.Rows
section
variable {X:Cx}
inductive ZjB (i:Nat) (σ:St) (H:Hp) (Q:VK):Prop where
 | mk (v:V) (_:σ[i]? = some (some v)) (_:Q v H):ZjB i σ H Q
noncomputable def Zkq (i:Nat):TE:=fun σ H Q=>ZjB i σ H Q
noncomputable def tC (v:V):TE:=fun _ H Q=>Q v H
theorem ZjV {i:Nat} {x:Str} {pos:Pos} (hN:X.N[i]? = some x) (hv:Vis X.env.scope x) (hd:(x==("__debug__" : Str))=false:=by decide) (hcd:(x==("__classdict__" : Str))=false:=by decide):PE X (.Name x pos) (Zkq i):=by
 intro pins s σ H Q I h
 obtain ⟨v,e,h⟩:=h
 obtain ⟨m,hn,hl⟩:=I.loc
 obtain ⟨u,r,l⟩:=hl i x v hN e hv
 have fin:EP X pins σ Q u s:=⟨v,H,I,r,h⟩
 rcases l with ⟨hk,hm⟩ | ⟨hk,c,hc,hcell⟩
 ·exact wpAny_Name (wpAny_loadName_local I.ok.kind hk hn hm fin) hd
 ·rcases hk with hk | hk
  ·exact wpAny_Name (wpAny_loadName_cell I.ok.kind hk hc hcell fin) hd
  ·exact wpAny_Name (wpAny_loadName_free I.ok.kind hk hc hcell fin hcd) hd
theorem Zi {i j pos}:PE X (.Constant (.int i) j pos) (tC (.int i)):=fun _ _ _ H _ I h=>wpAny_Constant_int ⟨.int i,H,I.tok _,⟨_,rfl⟩,h⟩
theorem ZcQ {b j pos}:PE X (.Constant (.bool b) j pos) (tC (.bl b)):=fun _ _ _ H _ I h=>Constant_bool ⟨.bl b,H,I,rfl,h⟩
theorem JL {j pos}:PE X (.Constant .none j pos) (tC .non):=fun _ _ _ H _ I h=>Constant_none ⟨.non,H,I,rfl,h⟩
theorem Z0 {x j pos}:PE X (.Constant (.str x) j pos) (tC (.str x)):=fun _ _ _ H _ I h=>Calls.Constant_str ⟨.str x,H,I.tok _,⟨_,rfl⟩,h⟩
noncomputable def Gl (X:Cx) (x:Str):Prop:=X.env.kindOf x=some .globalImplicit
theorem ZaR {E:Value->Shared->Prop} {pins:List (Addr × Obj)} {s:Shared} {σ:St} {H:Hp} {x:Str} {u:Value} {pos:Pos} {Q:Value->Shared->Prop} (I:Inv X pins σ H s) (hg:Gl X x) (hm:X.mg x=some u) (h:Q u s)
  (hd:(x==("__debug__" : Str))=false:=by decide):wpAny (model X.prog X.w) X.A (eval (.Name x pos) X.env) Q E s :=
 Calls.Name_function_global I.ok.kind hg (Calls.loadGlobal_global (by rw [I.ok.glob]; exact I.mod.glob.keeps I.bk) hm h) hd
theorem ZdC {E:Value->Shared->Prop} {pins:List (Addr × Obj)} {s:Shared} {σ:St} {H:Hp} {x:Str} {u:Value} {pos:Pos} {Q:Value->Shared->Prop} (I:Inv X pins σ H s) (hg:Gl X x) (hm:X.mg x=none) (hv:bootBuiltins x=some u) (h:Q u s)
  (hn:x ≠ "__name__":=by decide) (hd:(x==("__debug__" : Str))=false:=by decide):wpAny (model X.prog X.w) X.A (eval (.Name x pos) X.env) Q E s:=by
 obtain ⟨mb,h1,h2⟩:=I.mod.blt
 exact Calls.Name_function_global I.ok.kind hg (Calls.loadGlobal_builtin (by rw [I.ok.glob]; exact I.mod.glob.keeps I.bk) hm (by rw [I.ok.blt]; exact h1.keeps I.bk) ((h2 x hn).trans hv) h) hd
variable {a b:Expr} {ta tb:TE} {pos:Pos}
noncomputable def PC (X:Cx) (op:CmpOp) (a b:Expr) (t:TE):Prop :=
 ∀ (pins:List (Addr × Obj)) (s:Shared) (σ:St) (H:Hp) (Q:VK),Inv X pins σ H s->t σ H Q ->
  wpAny (model X.prog X.w) X.A (eval a X.env) (fun v s₁=>wpAny (model X.prog X.w) X.A (eval b X.env) (fun u s₂=>wpAny (model X.prog X.w) X.A (compareOp op v u) (EP X pins σ Q) X.xe s₂) X.xe s₁) X.xe s
theorem Zeb (b:Expr) {op:CmpOp} (h:op ≠ .In) (h2:op ≠ .NotIn):behindInMarks op b=false:=by
 have e1:(op==CmpOp.In)=false:=by cases op <;> first | rfl | exact absurd rfl h
 have e2:(op==CmpOp.NotIn)=false:=by cases op <;> first | rfl | exact absurd rfl h2
 cases b <;> simp [behindInMarks,e1,e2]
noncomputable def Zk9 (ta:TE):TE:=fun σ H Q=>ta σ H fun x H1=>Q (.bl (decide (x = .non))) H1
noncomputable def Zku (ta:TE):TE:=fun σ H Q=>ta σ H fun x H1=>Q (.bl (!decide (x = .non))) H1
theorem RelV.none_iff {x:V} {v:Value} (r:RelV x v):(v==Value.none)=decide (x = .non):=by
 cases x with
 | non=>cases r; rfl
 | bl _=>cases r; rfl
 | int _=>obtain ⟨t,rfl⟩:=r; rfl
 | str _=>obtain ⟨t,rfl⟩:=r; rfl
 | byt _=>obtain ⟨t,rfl⟩:=r; rfl
 | flt _=>obtain ⟨t,rfl⟩:=r; rfl
 | ref _=>cases r; rfl
 | ty _=>cases r; rfl
theorem Zaf {j pos'} (ha:PE X a ta):PC X .Is a (.Constant .none j pos') (Zk9 ta):=by
 intro pins s σ H Q I h
 refine thn (ha pins s σ H _ I h) fun v s1 zz0=>?_
 obtain ⟨x,H1,I1,r1,q1⟩:=zz0
 exact Constant_none (is_none_gen ⟨.bl _,H1,I1,by rw [r1.none_iff]; rfl,q1⟩)
theorem ZfI {j pos'} (ha:PE X a ta):PC X .IsNot a (.Constant .none j pos') (Zku ta):=by
 intro pins s σ H Q I h
 refine thn (ha pins s σ H _ I h) fun v s1 zz0=>?_
 obtain ⟨x,H1,I1,r1,q1⟩:=zz0
 exact Constant_none (isnot_none_gen ⟨.bl _,H1,I1,by rw [r1.none_iff]; rfl,q1⟩)
inductive Zkm (x:V) (Q:Bool->Hp->Prop) (H:Hp):Prop where
 | mk (c:Bool) (_:x = .bl c) (_:Q c H):Zkm x Q H
noncomputable def tB (t:TE):TT:=fun σ H Q=>t σ H fun x H1=>Zkm x Q H1
theorem ZjY {op:CmpOp} {t:TE} (h:PC X op a b t) (h1:behindInMarks op b=false:=by first | exact Zeb _ (by decide) (by decide) | rfl):PE X (.Compare a [op] [b] pos) t:=fun pins s σ H Q I hw=>wpAny_Compare1 (h pins s σ H Q I hw) h1
theorem Jm {op:CmpOp} {t:TE} (h:PC X op a b t) (h1:behindInMarks op b=false:=by first | exact Zeb _ (by decide) (by decide) | rfl):PT X (.Compare a [op] [b] pos) (tB t):=by
 intro pins s σ H Q I hw
 refine wpAny_isTrue_Compare1 (thn (h pins s σ H _ I hw) fun v s1 h1=>thn h1 fun u s2 h2=>thn h2 fun c s3 zz0=>?_) h1
 obtain ⟨x,H1,I1,r1,q1⟩:=zz0
 obtain ⟨d,rfl,q⟩:=q1
 cases r1
 exact wpAny_truthy_bool ⟨H1,I1,q⟩
theorem Zdt {e:Expr} {t:TE} (h:PE X e t) (he:∀ whole,isTrue e X.env whole=(do let v <- whole; standAt e.pos; holding [v] (truthy v)):=by intro _; rfl):PT X e (tB t):=by
 intro pins s σ H Q I hw
 refine isTrue_plain (thn (h pins s σ H _ I hw) fun v s1 zz0=>?_) (he _)
 obtain ⟨x,H1,I1,r1,q1⟩:=zz0
 obtain ⟨d,rfl,q⟩:=q1
 cases r1
 exact wpAny_truthy_bool ⟨H1,I1,q⟩
variable {tA tB':TT} {rest:List Expr}
noncomputable def Zlf (t u:TT):TT:=fun σ H Q=>t σ H fun c H1=>if c=true then u σ H1 Q else Q false H1
noncomputable def tOr (t u:TT):TT:=fun σ H Q=>t σ H fun c H1=>if c=true then Q true H1 else u σ H1 Q
theorem Ju (ha:PT X a tA):PW X (.BoolOp .And [a] pos) tA:=by
 intro wh pins s σ H Q I h
 refine isTrue_and (thn (ha pins s σ H Q I h) fun c s1 e=>?_)
 cases c with
 | true=>exact isTrue_and_nil e
 | false=>exact e
theorem Zhx (ha:PT X a tA):PW X (.BoolOp .Or [a] pos) tA:=by
 intro wh pins s σ H Q I h
 refine isTrue_or (thn (ha pins s σ H Q I h) fun c s1 e=>?_)
 cases c with
 | false=>exact isTrue_or_nil e
 | true=>exact e
theorem Zac (ha:PT X a tA) (hb:PW X (.BoolOp .And (b::rest) pos) tB'):PW X (.BoolOp .And (a::b::rest) pos) (Zlf tA tB'):=by
 intro wh pins s σ H Q I h
 refine isTrue_and (thn (ha pins s σ H _ I h) fun c s1 zz0=>?_)
 obtain ⟨H1,I1,q1⟩:=zz0
 cases c with
 | true=>exact hb wh pins s1 σ H1 Q I1 q1
 | false=>exact ⟨H1,I1,q1⟩
theorem Zjv (ha:PT X a tA) (hb:PW X (.BoolOp .Or (b::rest) pos) tB'):PW X (.BoolOp .Or (a::b::rest) pos) (tOr tA tB'):=by
 intro wh pins s σ H Q I h
 refine isTrue_or (thn (ha pins s σ H _ I h) fun c s1 zz0=>?_)
 obtain ⟨H1,I1,q1⟩:=zz0
 cases c with
 | true=>exact ⟨H1,I1,q1⟩
 | false=>exact hb wh pins s1 σ H1 Q I1 q1
noncomputable def Zk7 (ta tb:TE):TE:=fun σ H Q=>ta σ H fun x H1=>∃ c,x = .bl c/\if c=true then Q (.bl true) H1 else tb σ H1 Q
noncomputable def Zkt (ta:TE):TE:=fun σ H Q=>ta σ H fun x H1=>∃ c,x = .bl c/\Q (.bl (!c)) H1
theorem ZjW {op} {t:TE} (h:PE X a t):PE X (.BoolOp op [a] pos) t:=fun pins s σ H Q I hw=>BoolOp_one (h pins s σ H Q I hw)
theorem ZkN (ha:PE X a ta) (hb:PE X (.BoolOp .Or (b::rest) pos) tb):PE X (.BoolOp .Or (a::b::rest) pos) (Zk7 ta tb):=by
 intro pins s σ H Q I h
 refine BoolOp_or (thn (ha pins s σ H _ I h) fun v s1 zz0=>?_)
 obtain ⟨x,H1,I1,r1,q1⟩:=zz0
 obtain ⟨c,rfl,q1⟩:=q1
 cases r1
 refine wpAny_truthy_bool ?_
 cases c with
 | false=>exact hb pins s1 σ H1 Q I1 q1
 | true=>exact ⟨.bl true,H1,I1,rfl,q1⟩
theorem ZjX (ha:PE X a ta):PE X (.UnaryOp .Not a pos) (Zkt ta):=by
 intro pins s σ H Q I h
 refine UnaryOp_ (thn (ha pins s σ H _ I h) fun v s1 zz0=>?_)
 obtain ⟨x,H1,I1,r1,q1⟩:=zz0
 obtain ⟨c,rfl,q1⟩:=q1
 cases r1
 exact not_of (wpAny_truthy_bool ⟨.bl (!c),H1,I1,rfl,q1⟩)
end
end L2
namespace L2
open PySem PySem.Spec PyProof.Rows
noncomputable def SqL (K:PySem.W.Frag) (H:Hp) (a:Addr) (xs:List V):Prop :=
 Rd H a (.lst xs) \/
  ∃ (o:Obj) (its:Array Value) (n:Nat),K.lookup a=some o/\o.cls = .type "list" /\ o.dict=none/\o.data = .seq its n/\its.size<=sizeLine/\Vals xs its.toList
noncomputable def SqT (K:PySem.W.Frag) (H:Hp) (a:Addr) (xs:List V):Prop :=
 Rd H a (.tup xs) \/
  ∃ (o:Obj) (its:Array Value) (n:Nat),K.lookup a=some o/\o.cls = .type "tuple" /\ o.data = .seq its n/\its.size<=sizeLine/\Vals xs its.toList
noncomputable def Zlr:Value->Option V
 | .none=>some .non
 | .bool b=>some (.bl b)
 | .int i _=>some (.int i)
 | .str x _=>some (.str x)
 | .bytes b _=>some (.byt b)
 | .float b _=>some (.flt b)
 | .ref a=>some (.ref a)
 | .type n=>some (.ty n)
 | _=>none
theorem RelV.abs {x:V} {u:Value} (r:RelV x u):Zlr u=some x:=by
 cases x with
 | non=>cases r; rfl
 | bl _=>cases r; rfl
 | int _=>obtain ⟨t,rfl⟩:=r; rfl
 | str _=>obtain ⟨t,rfl⟩:=r; rfl
 | byt _=>obtain ⟨t,rfl⟩:=r; rfl
 | flt _=>obtain ⟨t,rfl⟩:=r; rfl
 | ref _=>cases r; rfl
 | ty _=>cases r; rfl
theorem RelV.inj {x y:V} {u:Value} (r:RelV x u) (q:RelV y u):x=y:=Option.some.inj (r.abs.symm.trans q.abs)
theorem Vals.inj:∀ {xs ys:List V} {us:List Value},Vals xs us->Vals ys us->xs=ys
 | _,_,_,.nil,.nil=>rfl
 | _,_,_,.cons r t,.cons r' t'=>by rw [r.inj r',Vals.inj t t']
section
variable {X:Cx} {pins:List (Addr × Obj)} {σ:St} {H:Hp} {s:Shared} {a:Addr} {xs ys:List V}
theorem SqL.of {K:PySem.W.Frag} (h:H a=some (.lst xs)):SqL K H a xs:=.inl (.inl h)
theorem SqT.of {K:PySem.W.Frag} (h:H a=some (.tup xs)):SqT K H a xs:=.inl (.inl h)
theorem Inv.list (I:Inv X pins σ H s) (h:SqL X.K H a xs):∃ its:List Value,Vals xs its/\PlainL s.heap a its.toArray/\xs.length<=sizeLine:=by
 rcases h with h | ⟨o,its,n,hk,hc,hd,hs,hz,r⟩
 ·obtain ⟨z,its,n,r,e⟩:=h.ok I.hok
  exact ⟨its,r,⟨_,n,e,rfl,rfl,rfl⟩,z⟩
 ·refine ⟨its.toList,r,⟨o,n,I.kIn a o hk,hc,hd,by simpa using hs⟩,?_⟩
  have e:=r.length
  simp only [Array.length_toList] at e
  exact Om.b4 ‹_› ‹_› rfl
theorem Inv.tuple (I:Inv X pins σ H s) (h:SqT X.K H a xs):∃ its:List Value,Vals xs its/\IsTup s.heap a its.toArray/\xs.length<=sizeLine:=by
 rcases h with h | ⟨o,its,n,hk,hc,hs,hz,r⟩
 ·obtain ⟨z,its,r,p⟩:=h.ok I.hok
  exact ⟨its,r,p.is,z⟩
 ·refine ⟨its.toList,r,⟨o,I.kIn a o hk,hc,n,by simpa using hs⟩,?_⟩
  have e:=r.length
  simp only [Array.length_toList] at e
  exact Om.b4 ‹_› ‹_› rfl
theorem Inv.list_inj (I:Inv X pins σ H s) (h:SqL X.K H a xs) (h':SqL X.K H a ys):xs=ys:=by
 obtain ⟨its,r,⟨o,n,e,_,_,d⟩,_⟩:=I.list h
 obtain ⟨its',r',⟨o',n',e',_,_,d'⟩,_⟩:=I.list h'
 rw [e] at e'; cases e'
 rw [d] at d'
 injection d' with d1 _
 have:its=its':=by simpa using congrArg Array.toList d1
 subst this
 exact r.inj r'
theorem Inv.tuple_inj (I:Inv X pins σ H s) (h:SqT X.K H a xs) (h':SqT X.K H a ys):xs=ys:=by
 obtain ⟨its,r,⟨o,e,_,n,d⟩,_⟩:=I.tuple h
 obtain ⟨its',r',⟨o',e',_,n',d'⟩,_⟩:=I.tuple h'
 rw [e] at e'; cases e'
 rw [d] at d'
 injection d' with d1 _
 have:its=its':=by simpa using congrArg Array.toList d1
 subst this
 exact r.inj r'
end
noncomputable abbrev Cx.wish (X:Cx) (E:Value->Shared->Prop):Cx:={ X with xe:=E }
noncomputable abbrev Cx.nox (X:Cx):Cx:=X.wish fun _ _=>False
theorem Cx.Ok.wish {X:Cx} (ok:X.Ok) (E:Value->Shared->Prop):(X.wish E).Ok :=
 ⟨ok.mod,ok.kind,ok.glob,ok.blt,ok.above,ok.inj,ok.has,ok.cab,ok.hd,ok.frames,ok.stk,ok.exf,ok.bs,ok.bsz,ok.noex,ok.exfs,ok.funs,ok.frf⟩
theorem Cx.Ok.unwish {X:Cx} {E:Value->Shared->Prop} (ok:(X.wish E).Ok):X.Ok :=
 ⟨ok.mod,ok.kind,ok.glob,ok.blt,ok.above,ok.inj,ok.has,ok.cab,ok.hd,ok.frames,ok.stk,ok.exf,ok.bs,ok.bsz,ok.noex,ok.exfs,ok.funs,ok.frf⟩
section
variable {X:Cx} {pins:List (Addr × Obj)} {σ:St} {H:Hp} {s:Shared} {E:Value->Shared->Prop}
theorem Inv.wish (I:Inv X pins σ H s) (E:Value->Shared->Prop):Inv (X.wish E) pins σ H s:=⟨I.ok.wish E,I.os,I.bare,I.base,I.loc,I.cell,I.free,I.freeC,I.pin,I.hok,I.len⟩
theorem Inv.unwish (I:Inv (X.wish E) pins σ H s):Inv X pins σ H s:=⟨I.ok.unwish,I.os,I.bare,I.base,I.loc,I.cell,I.free,I.freeC,I.pin,I.hok,I.len⟩
theorem SP.unwish {D:ZbF} {f:Flow} {s':Shared} (h:SP (X.wish E) pins D f s'):SP X pins D f s':=by
 cases f with
 | next=>obtain ⟨σ',H',I,q⟩:=h; exact ⟨σ',H',I.unwish,q⟩
 | brk=>obtain ⟨σ',H',I,q⟩:=h; exact ⟨σ',H',I.unwish,q⟩
 | cont=>obtain ⟨σ',H',I,q⟩:=h; exact ⟨σ',H',I.unwish,q⟩
 | ret u=>obtain ⟨v,σ',H',I,r,q⟩:=h; exact ⟨v,σ',H',I.unwish,r,q⟩
theorem PSs.nox {st:List Stmt} {t:TS} (h:PSs X.nox st t):PSs X st t:=fun pins s σ H D I hw =>
 wpAny_mono (h pins s σ H D (I.wish _) hw) (fun _ _ q=>q.unwish) fun _ _ z=>False.elim z
end
section
variable {X:Cx} {st:Stmt} {rest:List Stmt} {t u:TS} {e:Expr} {te:TE} {pos:Pos}
noncomputable def Zkw:TS:=fun D σ H=>D.nx σ H
noncomputable def ZjG (t u:TS):TS:=fun D σ H=>t { D with nx:=u D } σ H
theorem ZE:PSs X [] Zkw:=fun _ _ σ H _ I h=>wpAny_execs_nil ⟨σ,H,I,h⟩
theorem Ze (h1:PS X st t) (h2:PSs X rest u):PSs X (st::rest) (ZjG t u):=by
 intro pins s σ H D I h
 refine wpAny_execs_cons (thn (h1 pins s σ H { D with nx:=u D } I h) fun f s1 q=>?_)
 cases f with
 | next =>
  obtain ⟨σ',H',I',q⟩:=q
  exact h2 pins s1 σ' H' D I' q
 | ret v=>exact q
 | brk=>exact q
 | cont=>exact q
theorem Zg (h1:PS X st t):PSs X [st] t:=by
 intro pins s σ H D I h
 refine wpAny_execs_cons (thn (h1 pins s σ H D I h) fun f s1 q=>?_)
 cases f with
 | next=>exact wpAny_execs_nil q
 | ret v=>exact q
 | brk=>exact q
 | cont=>exact q
theorem Inv.quiet {pins:List (Addr × Obj)} {σ:St} {H:Hp} {s:Shared} (I:Inv X pins σ H s):interactive X.env=false:=by simp [interactive,I.ok.kind]
noncomputable def Zkz (te:TE):TS:=fun D σ H=>te σ H fun _ H1=>D.nx σ H1
theorem Ys (he:PE X e te) (hs:swapsWith e none pos.line X.env=pure false:=by rfl):PS X (.Expr e pos) (Zkz te):=by
 intro pins s σ H D I h
 exact wpAny_Expr_any (thn (he pins s σ H _ I h) fun v s1 zz0=> by obtain ⟨x,H1,I1,r1,q1⟩ := zz0; exact ⟨σ,H1,I1,q1⟩) I.quiet hs
noncomputable def Zk6 (te:TE):TS:=fun D σ H=>te σ H D.rt
theorem Zv (he:PE X e te):PS X (.Return (some e) pos) (Zk6 te):=by
 intro pins s σ H D I h
 exact wpAny_Return_some (thn (he pins s σ H _ I h) fun v s1 zz0=> by obtain ⟨x,H1,I1,r1,q1⟩ := zz0; exact ⟨x,σ,H1,I1,r1,q1⟩)
noncomputable def Zla (c:TT) (t u:TS):TS:=fun D σ H=>c σ H fun b H1=>if b=true then t D σ H1 else u D σ H1
theorem ZZ {c:Expr} {a b:List Stmt} {tc:TT} (hc:PT X c tc) (ha:PSs X a t) (hb:PSs X b u):PS X (.If c a b pos) (Zla tc t u):=by
 intro pins s σ H D I h
 refine wpAny_If (thn (hc pins s σ H _ I h) fun d s1 zz0=>?_)
 obtain ⟨H1,I1,q1⟩:=zz0
 cases d with
 | true=>exact ha pins s1 σ H1 D I1 q1
 | false=>exact hb pins s1 σ H1 D I1 q1
end
noncomputable abbrev TG:=V->St->Hp->(St->Hp->Prop)->Prop
noncomputable abbrev TGs:=List V->St->Hp->(St->Hp->Prop)->Prop
noncomputable def PG (X:Cx) (target:Expr) (t:TG):Prop :=
 ∀ (pins:List (Addr × Obj)) (s:Shared) (σ:St) (H:Hp) (v:V) (u:Value) (Q:St->Hp->Prop),Inv X pins σ H s->RelV v u->t v σ H Q ->
  wpAny (model X.prog X.w) X.A (assign target X.env u) (fun _ s'=>∃ σ' H',Inv X pins σ' H' s'/\Q σ' H') X.xe s
noncomputable def PGs (X:Cx) (ts:List Expr) (t:TGs):Prop :=
 ∀ (pins:List (Addr × Obj)) (s:Shared) (σ:St) (H:Hp) (vs:List V) (us:List Value) (Q:St->Hp->Prop),Inv X pins σ H s->Vals vs us->t vs σ H Q ->
  wpAny (model X.prog X.w) X.A (assignInOrder ((assignEach ts X.env).map (·.2)) us) (fun _ s'=>∃ σ' H',Inv X pins σ' H' s'/\Q σ' H') X.xe s
section
variable {X:Cx} {pos:Pos}
noncomputable def ZaU (i:Nat):TG:=fun v σ H Q=>Q (σ.set i (some v)) H
theorem ZG {i:Nat} {x:Str} (hN:X.N.Nodup) (hi:X.N[i]? = some x) (hx:Loc X.env.scope x) (hf:X.fn x=true\/X.env.scope.names.lookup x=some .local:=by first | exact .inl rfl | exact .inr rfl | assumption):PG X (.Name x pos) (ZaU i):=by
 intro pins s σ H v u Q I r h
 exact wpAny_assign_Name (ZdW I hN hi hx r (fun s' I'=>⟨_,H,I',h⟩) hf)
noncomputable def Zlp:TGs:=fun vs σ H Q=>vs=[]/\Q σ H
noncomputable def ZkV (t:TG) (u:TGs):TGs:=fun vs σ H Q=>∃ v r,vs=v::r/\t v σ H fun σ' H'=>u r σ' H' Q
theorem ZbH:PGs X [] Zlp:=by
 intro pins s σ H vs us Q I r h
 obtain ⟨e,h⟩:=h
 subst e
 cases r
 exact assignInOrder_nil ⟨σ,H,I,h⟩
theorem Y2 {e:Expr} {es:List Expr} {t:TG} {u:TGs} (h1:PG X e t) (h2:PGs X es u)
  (hs:(assignEach (e::es) X.env).map (·.2)=assign e X.env::(assignEach es X.env).map (·.2):=by rfl):PGs X (e::es) (ZkV t u):=by
 intro pins s σ H vs us Q I r h
 obtain ⟨v,vr,e1,h⟩:=h
 subst e1
 cases r with
 | cons r rr =>
  rw [hs]
  refine assignInOrder_cons (thn (h1 pins s σ H _ _ _ I r h) fun _ s1 zz0=>?_)
  obtain ⟨σ1,H1,I1,q1⟩:=zz0
  exact h2 pins s1 σ1 H1 _ _ Q I1 rr q1
noncomputable def ZkU (K:PySem.W.Frag) (n:Nat) (t:TGs):TG:=fun v σ H Q=>∃ a xs,v = .ref a/\SqT K H a xs/\xs.length=n/\t xs σ H Q
theorem ZhC {es:List Expr} {k:Nat} {t:TGs} {n:Nat} (hc:X.calm=true) (h:PGs X es t)
  (hn:(assignEach es X.env).length=n:=by rfl) (hst:(assignEach es X.env).findIdx? (·.1)=none:=by rfl):PG X (.Tuple es k pos) (ZkU X.K n t):=by
 intro pins s σ H v u Q I r hw
 obtain ⟨a,xs,e1,hq,hl,hw⟩:=hw
 subst e1
 cases r
 obtain ⟨its,rv,ht,hz⟩:=I.tuple hq
 refine assign_Tuple_tuple (I.ok.hd hc) ht (by simp [hn,<- hl,rv.length]) hst fun h' hx=>?_
 have I1:Inv X pins σ H { s with heap:=h' }:=I.kept (t':=s.toks) fun b o e=>hx b o (Nat.ne_of_lt (Heap.lt_size e)) e
 exact h pins _ σ H xs _ Q I1 (by simpa using rv) hw
noncomputable def ZjJ (te:TE) (g:TG):TS:=fun D σ H=>te σ H fun x H1=>g x σ H1 D.nx
theorem Zhy {tg e:Expr} {te:TE} {g:TG} (he:PE X e te) (hg:PG X tg g) (hs:swapsWithSole [tg] e pos.line X.env=pure false:=by rfl) (hw:swappedStores [tg] e X.env=pure none:=by rfl)
  (h1:(assignEach [tg] X.env).map (·.2)=[assign tg X.env]:=by rfl):PS X (.Assign [tg] e pos) (ZjJ te g):=by
 intro pins s σ H D I h
 refine wpAny_Assign_stores (thn (he pins s σ H _ I h) fun v s1 zz0=>?_) hs hw
 obtain ⟨x,H1,I1,r1,q1⟩:=zz0
 rw [h1]
 exact thn (hg pins s1 σ H1 x v _ I1 r1 q1) fun _ s2 q=>q
theorem Zq {i:Nat} {x:Str} {e:Expr} {te:TE} {pos':Pos} (hN:X.N.Nodup) (hi:X.N[i]? = some x) (hx:Loc X.env.scope x) (he:PE X e te) (hs:swapsWith e (some (.Name x pos')) pos.line X.env=pure false:=by rfl) (hf:X.fn x=true\/X.env.scope.names.lookup x=some .local:=by first | exact .inl rfl | exact .inr rfl | assumption) :
  PS X (.Assign [.Name x pos'] e pos) (ZjJ te (ZaU i)):=by
 intro pins s σ H D I h
 refine wpAny_Assign_Name (thn (he pins s σ H _ I h) fun v s1 zz0=>?_) hs
 obtain ⟨y,H1,I1,r1,q1⟩:=zz0
 exact ZdW I1 hN hi hx r1 (fun s2 I2=>⟨_,H1,I2,q1⟩) hf
end
section
variable {X:Cx} {pos:Pos}
noncomputable def ZjF (c:TT) (tb:TS):TS:=fun D σ H=>∃ W:Nat->St->Hp->Prop,(∃ m,W m σ H)/\∀ m σ H,W m σ H ->
 c σ H fun b H1=>if b=true then ∃ N:St->Hp->Prop,(∀ σ' H',N σ' H'->∃ m',m'<m/\W m' σ' H')/\tb { D with nx:=N,ct:=N,bk:=D.nx } σ H1 else D.nx σ H1
theorem Zb2 {c:Expr} {body:List Stmt} {tc:TT} {tb:TS} (hp:PassesOwn (model X.prog X.w) X.A X.env X.xe) (hc:PT X c tc) (hb:PSs X body tb):PS X (.While c body [] pos) (ZjF tc tb):=by
 intro pins s σ H D I h
 obtain ⟨W,⟨m0,w0⟩,turn⟩:=h
 refine wpAny_While (codeAny_whileLoop (fun n s'=>∃ σ' H',Inv X pins σ' H' s'/\W n σ' H') ?_ m0 ⟨σ,H,I,w0⟩)
 rintro n s1 ⟨σ1,H1,I1,w1⟩
 refine wpAny_passesOwn hp (thn (hc pins s1 σ1 H1 _ I1 (turn n σ1 H1 w1)) fun b s2 zz0=>?_)
 obtain ⟨H2,I2,q2⟩:=zz0
 cases b with
 | true =>
  obtain ⟨N,hN,q2⟩:=q2
  rw [if_pos rfl]
  refine wpAny_passesOwn hp (thn (hb pins s2 σ1 H2 _ I2 q2) fun f s3 q3=>?_)
  cases f with
  | next =>
   obtain ⟨σ3,H3,I3,n3⟩:=q3
   obtain ⟨m',hm,w3⟩:=hN σ3 H3 n3
   exact ⟨m',hm,σ3,H3,I3,w3⟩
  | cont =>
   obtain ⟨σ3,H3,I3,n3⟩:=q3
   obtain ⟨m',hm,w3⟩:=hN σ3 H3 n3
   exact ⟨m',hm,σ3,H3,I3,w3⟩
  | brk=>exact q3
  | ret v=>exact q3
 | false =>
  rw [if_neg Bool.false_ne_true]
  exact wpAny_execs_nil ⟨σ1,H2,I2,q2⟩
end
structure It where
 go:Nat->Hp->Prop
 yld:Nat->Hp->V->Hp->Prop
 stop:Nat->Hp->Prop
noncomputable def ZcH (X:Cx) (pins:List (Addr × Obj)) (H:Hp) (b:Addr):Prop :=
 H b=none/\b≠X.env.locals/\b∉X.fs/\(b∈X.ex\/X.s₀.heap.objs.size<=b)/\(∀ x c,X.env.cells.lookup x=some c->c≠b)/\∀ p∈X.pn++pins,p.1≠b
theorem Inv.fpOk {X:Cx} {pins:List (Addr × Obj)} {σ:St} {H H':Hp} {s:Shared} {b:Addr} (I:Inv X pins σ H s) (hb:s.heap.objs.size<=b) (hn:H' b=none):ZcH X pins H' b:=by
 refine ⟨hn,Nat.ne_of_gt (Nat.lt_of_lt_of_le I.lt hb),I.nofs hb,.inr (Nat.le_trans I.sz hb),fun x c e z=>?_,fun p hp z=>?_⟩
 ·obtain ⟨v,q⟩:=I.cell x c e
  exact absurd (Nat.lt_of_lt_of_le q.lt (by rw [z]; exact hb)) (Nat.lt_irrefl _)
 ·exact absurd (Nat.lt_of_lt_of_le (Heap.lt_size (I.pin p hp).1) (by rw [z]; exact hb)) (Nat.lt_irrefl _)
structure Zis (P:Program) (w:World) (K:PySem.W.Frag) (tg:Expr) (J:It) (fp:List Addr) (it:Addr) (tn:Nat->Heap->Prop):Prop where
 mem:it∈fp
 obj:∀ i h,tn i h->∀ b∈fp,∃ o,h.get? b=some o/\∀ v,o.data ≠ .cell v
 keep:∀ i h h',tn i h->(∀ b∈fp,∀ o,h.get? b=some o->h'.get? b=some o)->tn i h'
 item:∀ (X:Cx),X.prog=P->X.w=w->X.K=K->X.calm=true->∀ (i:Nat) (pins:List (Addr × Obj)) (s:Shared) (σ:St) (H:Hp) (E:Value->Shared->Prop),Inv X pins σ H s->(∀ b∈fp,ZcH X pins H b)->tn i s.heap->J.go i H ->
  wpAny (model P w) X.A (pyNext (.ref it)) (fun r s1=>∃ u,r=some u /\
   wpAny (model P w) X.A (letOwnedTupleGo tg (.ref it) u) (fun _ s2=>∃ x H',Inv X pins σ H' s2/\RelV x u/\J.yld i H x H'/\tn (i+1) s2.heap/\∀ b∈fp,H' b=none) E s1) E s
 done:∀ (X:Cx),X.prog=P->X.w=w->X.K=K->X.calm=true->∀ (i:Nat) (pins:List (Addr × Obj)) (s:Shared) (σ:St) (H:Hp) (E:Value->Shared->Prop),Inv X pins σ H s->(∀ b∈fp,ZcH X pins H b)->tn i s.heap->J.stop i H ->
  wpAny (model P w) X.A (pyNext (.ref it)) (fun r s1=>r=none/\Inv X pins σ H s1) E s
 self:∀ (A:Around) (i:Nat) (s:Shared) (Q:Value->Shared->Prop) (E:Value->Shared->Prop),tn i s.heap->Q (.ref it) s->wpAny (model P w) A (pyIter (.ref it)) Q E s
noncomputable abbrev TI:=St->Hp->(It->Hp->Prop)->Prop
noncomputable def PIE (X:Cx) (pins:List (Addr × Obj)) (σ:St) (tg:Expr) (R:It->Hp->Prop) (itv:Value) (s2:Shared):Prop :=
 ∃ (it:Addr) (fp:List Addr) (tn:Nat->Heap->Prop) (J:It) (H':Hp),itv = .ref it/\Inv X pins σ H' s2/\Zis X.prog X.w X.K tg J fp it tn/\tn 0 s2.heap/\(∀ b∈fp,ZcH X pins H' b)/\R J H'
noncomputable def PI (X:Cx) (tg iter:Expr) (wi:TI):Prop :=
 ∀ (pins:List (Addr × Obj)) (s:Shared) (σ:St) (H:Hp) (R:It->Hp->Prop),Inv X pins σ H s->wi σ H R ->
  wpAny (model X.prog X.w) X.A (eval iter X.env) (fun v s1=>wpAny (model X.prog X.w) X.A (pyIter v) (PIE X pins σ tg R) X.xe s1) X.xe s
theorem Zh6 {M:Model} {A:Around} {E:Value->Shared->Prop} {s:Shared} {tg:Expr} {it:Addr} {u:Value} {o:Obj} {n:String} {vs:Array Value} {Q:Unit->Shared->Prop} (ho:s.heap.get? it=some o) (hc:o.cls = .type n) (hd:o.data = .fields vs)
    (hn:["enumerate", "zip", "dict_itemiterator", "dict_reverseitemiterator", "odict_iterator", "itertools.zip_longest", "itertools.pairwise"].contains n=false) (hQ:Q () s):wpAny M A (letOwnedTupleGo tg (.ref it) u) Q E s := by
  unfold letOwnedTupleGo
  cases tg <;> first
    | exact wpAny_pure hQ
    | (cases u <;> first
        | exact wpAny_pure hQ
        | (refine wpAny_bind (wpAny_load ho ?_)
           rw [hc, hd]
           show wpAny M A (if (["enumerate", "zip", "dict_itemiterator", "dict_reverseitemiterator", "odict_iterator", "itertools.zip_longest", "itertools.pairwise"].contains n&&vs[0]? == some (rawInt _))=true then _ else _) Q E s
           rw [if_neg (by intro h; rw [hn, Bool.false_and] at h; cases h)]
           exact wpAny_pure hQ))
noncomputable def Itl (K:PySem.W.Frag) (a:Addr):It :=
 ⟨fun i H=>∃ xs x,SqL K H a xs/\xs[i]? = some x,fun i H x H'=>H'=H/\∀ xs,SqL K H a xs->xs[i]? = some x,fun i H=>∃ xs,SqL K H a xs/\xs.length<=i⟩
noncomputable def Itt (K:PySem.W.Frag) (a:Addr):It :=
 ⟨fun i H=>∃ xs x,SqT K H a xs/\xs[i]? = some x,fun i H x H'=>H'=H/\∀ xs,SqT K H a xs->xs[i]? = some x,fun i H=>∃ xs,SqT K H a xs/\xs.length<=i⟩
noncomputable def Itr (lo:Int) (n:Nat):It:=⟨fun i _=>i<n,fun i H x H'=>H'=H/\x = .int (lo+i),fun i _=>n<=i⟩
theorem Zgm {P:Program} {w:World} {K:PySem.W.Frag} {tg:Expr} (a it:Addr):Zis P w K tg (Itl K a) [it] it (fun i h=>h.IsListIter it a i) where
 mem:=by simp
 obj:=fun i h st b hb=>by
  have e:b=it:=by simpa using hb
  subst e
  obtain ⟨o,e,c,d⟩:=st
  exact ⟨o,e,fun v z=>by rw [d] at z; cases z⟩
 keep:=fun i h h' st k=>st.at fun o e=>k it (by simp) o e
 item:=by
  intro X hP hw hK hc i pins s σ H E I hf st hg
  subst hP hw hK
  obtain ⟨xs,x,hq,hx⟩:=hg
  obtain ⟨its,rv,p,hz⟩:=I.list hq
  obtain ⟨u,hu,ru⟩:=rv.get hx
  obtain ⟨f0,f1,f2,f3,f4,f5⟩:=hf it (by simp)
  refine wpAny_pyNext_list_item st p.isList (x:=u) (by simpa using hu) fun h' st' sb=>?_
  have I1:Inv X pins σ H { s with heap:=h' }:=I.turned (t':=s.toks) (fun b o hb e=>(sb.2 b hb).trans e) f0 f1 f3 f4 f5
  obtain ⟨o,e,c,d⟩:=id st'
  exact ⟨u,rfl,Zh6 (s:={ s with heap:=h' }) e c d (by decide) ⟨x,H,I1,ru,⟨rfl,fun ys hy=>by rw [I.list_inj hy hq]; exact hx⟩,st',fun b hb=>(hf b hb).1⟩⟩
 done:=by
  intro X hP hw hK hc i pins s σ H E I hf st hg
  subst hP hw hK
  obtain ⟨xs,hq,hx⟩:=hg
  obtain ⟨its,rv,p,hz⟩:=I.list hq
  obtain ⟨f0,f1,f2,f3,f4,f5⟩:=hf it (by simp)
  have hl:=rv.length
  exact wpAny_pyNext_list_end (I.ok.hd hc) st p.isList (by simp; exact Om.k232 hx hl) fun h' eb=>⟨rfl,I.turned (t':=s.toks) (fun b o hb e=>eb b o hb e) f0 f1 f3 f4 f5⟩
 self:=fun _ _ _ _ _ st h=>wpAny_pyIter_listiter st h
theorem Ze1 {P:Program} {w:World} {K:PySem.W.Frag} {tg:Expr} (a it:Addr):Zis P w K tg (Itt K a) [it] it (fun i h=>h.IsTupleIter it a i) where
 mem:=by simp
 obj:=fun i h st b hb=>by
  have e:b=it:=by simpa using hb
  subst e
  obtain ⟨o,e,c,d⟩:=st
  exact ⟨o,e,fun v z=>by rw [d] at z; cases z⟩
 keep:=fun i h h' st k=>st.at fun o e=>k it (by simp) o e
 item:=by
  intro X hP hw hK hc i pins s σ H E I hf st hg
  subst hP hw hK
  obtain ⟨xs,x,hq,hx⟩:=hg
  obtain ⟨its,rv,p,hz⟩:=I.tuple hq
  obtain ⟨u,hu,ru⟩:=rv.get hx
  obtain ⟨f0,f1,f2,f3,f4,f5⟩:=hf it (by simp)
  refine wpAny_pyNext_tuple_item st (show s.heap.IsTuple a its.toArray from p) (x:=u) (by simpa using hu) fun h' st' sb=>?_
  have I1:Inv X pins σ H { s with heap:=h' }:=I.turned (t':=s.toks) (fun b o hb e=>(sb.2 b hb).trans e) f0 f1 f3 f4 f5
  obtain ⟨o,e,c,d⟩:=id st'
  exact ⟨u,rfl,Zh6 (s:={ s with heap:=h' }) e c d (by decide) ⟨x,H,I1,ru,⟨rfl,fun ys hy=>by rw [I.tuple_inj hy hq]; exact hx⟩,st',fun b hb=>(hf b hb).1⟩⟩
 done:=by
  intro X hP hw hK hc i pins s σ H E I hf st hg
  subst hP hw hK
  obtain ⟨xs,hq,hx⟩:=hg
  obtain ⟨its,rv,p,hz⟩:=I.tuple hq
  obtain ⟨f0,f1,f2,f3,f4,f5⟩:=hf it (by simp)
  have hl:=rv.length
  exact wpAny_pyNext_tuple_end (I.ok.hd hc) st (show s.heap.IsTuple a its.toArray from p) (by simp; exact Om.k232 hx hl) fun h' eb=>⟨rfl,I.turned (t':=s.toks) (fun b o hb e=>eb b o hb e) f0 f1 f3 f4 f5⟩
 self:=fun _ _ _ _ _ st h=>wpAny_pyIter_tupleiter st h
theorem Ze2 {P:Program} {w:World} {K:PySem.W.Frag} {tg:Expr} (it:Addr) (lo:Int) (n:Nat):Zis P w K tg (Itr lo n) [it] it (fun i h=>IsRangeIter h it (lo+(i:Nat)*1) ((n:Int) - (i:Nat)) 1) where
 mem:=by simp
 obj:=fun i h st b hb=>by
  have e:b=it:=by simpa using hb
  subst e
  exact ⟨_,st,fun v z=>by
   have z':Data.fields _=Data.cell v:=z
   cases z'⟩
 keep:=fun i h h' st k=>k it (by simp) _ st
 item:=by
  intro X hP hw hK hc i pins s σ H E I hf st hg
  subst hP hw hK
  obtain ⟨f0,f1,f2,f3,f4,f5⟩:=hf it (by simp)
  have W:=Walks.range (prog:=X.prog) (w:=X.w) (I.ok.hd hc) it lo 1 n
  refine W.item i s _ _ hg st fun v h' tk hv st' kk=>?_
  obtain ⟨t,rfl⟩:=hv
  have I1:Inv X pins σ H { s with heap:=h',toks:=tk }:=I.turned (fun b o hb e=>kk b o (by simpa using hb) e) f0 f1 f3 f4 f5
  refine ⟨_,rfl,Zh6 (s:={ s with heap:=h',toks:=tk }) (n:="range_iterator") st' rfl rfl (by decide) ⟨.int (lo+i),H,I1,⟨t,?_⟩,⟨rfl,rfl⟩,st',fun b hb=>(hf b hb).1⟩⟩
  rw [Int.mul_one]
 done:=by
  intro X hP hw hK hc i pins s σ H E I hf st hg
  subst hP hw hK
  obtain ⟨f0,f1,f2,f3,f4,f5⟩:=hf it (by simp)
  exact wpAny_pyNext_range_end (I.ok.hd hc) st (by have:n<=i:=hg; omega) fun h' eb=>⟨rfl,I.turned (t':=s.toks) (fun b o hb e=>eb b o hb e) f0 f1 f3 f4 f5⟩
 self:=fun _ _ _ _ _ st h=>wpAny_pyIter_rangeiter st h
end L2
namespace L2
open PySem PySem.Spec PyProof.Rows
section
variable {X:Cx} {tg:Expr}
noncomputable def Zjz (K:PySem.W.Frag) (tl:TE):TI:=fun σ H R=>tl σ H fun x H1=>∃ a,x = .ref a/\(∃ xs,SqL K H1 a xs)/\R (Itl K a) H1
noncomputable def ZkR (K:PySem.W.Frag) (tl:TE):TI:=fun σ H R=>tl σ H fun x H1=>∃ a,x = .ref a/\(∃ xs,SqT K H1 a xs)/\R (Itt K a) H1
theorem ZaN {l:Expr} {tl:TE} (hl:PE X l tl):PI X tg l (Zjz X.K tl):=by
 intro pins s σ H R I h
 refine thn (hl pins s σ H _ I h) fun v s1 zz0=>?_
 obtain ⟨x,H1,I1,r1,q1⟩:=zz0
 obtain ⟨a,e,⟨xs,hq⟩,q⟩:=q1
 subst e
 cases r1
 obtain ⟨its,rv,p,hz⟩:=I1.list hq
 refine wpAny_pyIter_list p.isList ?_
 refine ⟨s1.heap.objs.size,[s1.heap.objs.size],_,_,H1,rfl,I1.kept (t':=s1.toks) fun b o e=>Heap.get?_push_of_some _ e,Zgm a _,⟨_,Heap.get?_push_size _ rfl,rfl,rfl⟩,fun b hb=>?_,q⟩
 have e:b=s1.heap.objs.size:=by simpa using hb
 subst e
 exact I1.fpOk (Nat.le_refl _) (I1.hok.fresh (Nat.le_refl _))
theorem ZjU {l:Expr} {tl:TE} (hl:PE X l tl):PI X tg l (ZkR X.K tl):=by
 intro pins s σ H R I h
 refine thn (hl pins s σ H _ I h) fun v s1 zz0=>?_
 obtain ⟨x,H1,I1,r1,q1⟩:=zz0
 obtain ⟨a,e,⟨xs,hq⟩,q⟩:=q1
 subst e
 cases r1
 obtain ⟨its,rv,p,hz⟩:=I1.tuple hq
 refine wpAny_pyIter_tuple (show s1.heap.IsTuple a its.toArray from p) ?_
 refine ⟨s1.heap.objs.size,[s1.heap.objs.size],_,_,H1,rfl,I1.kept (t':=s1.toks) fun b o e=>Heap.get?_push_of_some _ e,Ze1 a _,⟨_,Heap.get?_push_size _ rfl,rfl,rfl⟩,fun b hb=>?_,q⟩
 have e:b=s1.heap.objs.size:=by simpa using hb
 subst e
 exact I1.fpOk (Nat.le_refl _) (I1.hok.fresh (Nat.le_refl _))
theorem Zhw {pins:List (Addr × Obj)} {σ:St} {H:Hp} {s:Shared} {R:It->Hp->Prop} {E:Value->Shared->Prop} {lo hi:Int} {t u v:Tok} {tk:Nat} (I:Inv X pins σ H s) (h1 : -(2 ^ 62)<=lo) (h2:lo<2 ^ 62) (h3 : -(2 ^ 62)<=hi) (h4:hi<2 ^ 62)
  (q:R (Itr lo (hi - lo).toNat) H):wpAny (model X.prog X.w) X.A (pyIter (.ref s.heap.objs.size)) (PIE X pins σ tg R) E { s with heap:=s.heap.push { cls:=.type "range",data:=.fields #[.int lo t,.int hi u,.int 1 v] },toks:=tk }:=by
 refine wpAny_pyIter_range (IsRange.new ..) (small_one h1 h2 h3 h4) ?_
 have I1:Inv X pins σ H { s with heap:=s.heap.push { cls:=.type "range",data:=.fields #[.int lo t,.int hi u,.int 1 v] },toks:=tk }:=I.kept fun b o e=>Heap.get?_push_of_some _ e
 refine ⟨(s.heap.push { cls:=.type "range",data:=.fields #[.int lo t,.int hi u,.int 1 v] }).objs.size,[(s.heap.push { cls:=.type "range",data:=.fields #[.int lo t,.int hi u,.int 1 v] }).objs.size],_,_,H,rfl,
  I1.kept (t':=tk) fun b o e=>Heap.get?_push_of_some _ e,Ze2 _ lo (hi - lo).toNat,?_,fun b hb=>?_,q⟩
 ·have e1:lo+((0:Nat):Int)*1=lo:=by simp
  have e2:(((hi - lo).toNat:Nat):Int) - ((0:Nat):Int)=Builtin.Range.rangeSize lo hi 1:=by rw [rangeSize_one]; split <;> omega
  show IsRangeIter _ _ (lo+((0:Nat):Int)*1) ((((hi - lo).toNat:Nat):Int) - ((0:Nat):Int)) 1
  rw [e1,e2]
  exact Heap.get?_push_size _ rfl
 ·have e:b=(s.heap.push { cls:=.type "range",data:=.fields #[.int lo t,.int hi u,.int 1 v] }).objs.size:=by simpa using hb
  subst e
  exact I1.fpOk (Nat.le_refl _) (I1.hok.fresh (Nat.le_refl _))
noncomputable def ZkS (ta:TA):TI:=fun σ H R=>ta σ H fun vs H1=>∃ j:Int,vs=[.int j] /\ -(2 ^ 62)<=j/\j<2 ^ 62/\R (Itr 0 j.toNat) H1
theorem ZB {a:Expr} {ta:TA} {p pos:Pos} (hg:Gl X "range") (hm:X.mg "range" = none) (ha:PA X [a] ta) (hs:starEach [a] X.env=[(false,eval a X.env)]:=by rfl):PI X tg (.Call (.Name "range" p) [a] [] pos) (ZkS ta):=by
 intro pins s σ H R I h
 refine Call_ (ZdC I hg hm boot_range (PyProof.Rows.callWith_type1 (thn (ha pos pins s σ H _ I h) fun us s1 zz0=>?_) hs rfl))
 obtain ⟨vs,H1,I1,r1,q1⟩:=zz0
 obtain ⟨j,e,q1,q2,q⟩:=q1
 subst e
 cases r1 with
 | cons r rr =>
  cases rr
  obtain ⟨t,rfl⟩:=r
  exact call_range_1 (Zhw I1 (by exact Om.k231 ) (by exact Om.k230 ) q1 q2 (by simpa using q))
noncomputable def Zlb (wi:TI) (g:TG) (tb:TS):TS:=fun D σ H=>wi σ H fun J H1=>∃ W:Nat->Nat->St->Hp->Prop,(∃ m,W 0 m σ H1)/\∀ i m σ H,W i m σ H ->
 (J.stop i H/\D.nx σ H)\/(J.go i H/\∃ N:St->Hp->Prop,(∀ σ' H',N σ' H'->∃ m',m'<m/\W (i+1) m' σ' H')/\∀ x H',J.yld i H x H'->g x σ H' fun σ2 H2=>tb { D with nx:=N,ct:=N,bk:=D.nx } σ2 H2)
noncomputable def Zb3 (fp:List Addr) (h:Heap):List (Addr × Obj):=fp.filterMap fun b=>(h.get? b).map fun o=>(b,o)
theorem JM {fp:List Addr} {h:Heap} {b:Addr} {o:Obj} (hb:b∈fp) (e:h.get? b=some o):(b,o)∈Zb3 fp h:=List.mem_filterMap.mpr ⟨b,hb,by rw [e]; rfl⟩
theorem ZgE {fp:List Addr} {h:Heap} {p:Addr × Obj} (hp:p∈Zb3 fp h):p.1∈fp/\h.get? p.1=some p.2:=by
 obtain ⟨b,hb,e⟩:=List.mem_filterMap.mp hp
 cases q:h.get? b with
 | none=>rw [q] at e; cases e
 | some o =>
  rw [q] at e
  have e':(b,o)=p:=Option.some.inj e
  subst e'
  exact ⟨hb,q⟩
theorem Inv.pinned {pins:List (Addr × Obj)} {σ:St} {H:Hp} {s:Shared} {fp:List Addr} (I:Inv X pins σ H s) (hf:∀ b∈fp,ZcH X pins H b) (ho:∀ b∈fp,∃ o,s.heap.get? b=some o/\∀ v,o.data ≠ .cell v):Inv X (pins++Zb3 fp s.heap) σ H s :=
 I.pins_of fun p hp=>(List.mem_append.mp hp).elim (fun z=>I.pin p (List.mem_append_right _ z)) fun z=>by
  obtain ⟨hb,e⟩:=ZgE z
  obtain ⟨f0,f1,f2,_⟩:=hf p.1 hb
  obtain ⟨o,e',d⟩:=ho p.1 hb
  rw [e] at e'; cases e'
  exact ⟨e,f0,f1,f2,d⟩
theorem Inv.unpinned {pins pl:List (Addr × Obj)} {σ:St} {H:Hp} {s:Shared} (I:Inv X (pins++pl) σ H s):Inv X pins σ H s:=I.pins_of fun p hp=>I.pin p (List.mem_append_right _ (List.mem_append_left _ hp))
theorem Yf {iter:Expr} {body:List Stmt} {wi:TI} {g:TG} {tb:TS} {pos:Pos} (hp:PassesOwn (model X.prog X.w) X.A X.env X.xe) (hc:X.calm=true) (hi:PI X tg iter wi) (hg:PG X tg g) (hb:PSs X body tb)
  (hs:∀ x,foldedSetIterable iter X.env x=pure x:=by intro _; rfl):PS X (.For tg iter body [] pos) (Zlb wi g tb):=by
 intro pins s σ H D I h
 refine wpAny_For (thn (hi pins s σ H _ I h) fun v s1 h1=>thn h1 fun itv s2 h2=>?_) hs
 obtain ⟨it,fp,tn,J,H2,e,I2,T,st2,f2,W,⟨m0,w0⟩,turn⟩:=h2
 subst e
 have stat:∀ {H':Hp},(∀ b∈fp,H' b=none)->∀ b∈fp,ZcH X pins H' b:=fun hn b hb=>⟨hn b hb,(f2 b hb).2⟩
 refine codeAny_forLoop_any (fun n s'=>∃ i σ' H',Inv X pins σ' H' s'/\tn i s'.heap/\(∀ b∈fp,H' b=none)/\W i n σ' H') ?_ m0 ⟨0,σ,H2,I2,st2,fun b hb=>(f2 b hb).1,w0⟩
 rintro n s3 ⟨i,σ3,H3,I3,st3,fr3,w3⟩
 rcases turn i n σ3 H3 w3 with ⟨stop,qn⟩ | ⟨go,N,hN,step⟩
 ·refine wpAny_passesOwn hp (thn (T.done X rfl rfl rfl hc i pins s3 σ3 H3 X.xe I3 (stat fr3) st3 stop) fun r s4 zz0=>?_)
  obtain ⟨hr,I4⟩:=zz0
  subst hr
  exact wpAny_execs_nil ⟨σ3,H3,I4,qn⟩
 ·refine wpAny_passesOwn hp (thn (T.item X rfl rfl rfl hc i pins s3 σ3 H3 X.xe I3 (stat fr3) st3 go) fun r s4 zz0=>?_)
  obtain ⟨u,hr,h4⟩:=zz0
  subst hr
  refine wpAny_passesOwn hp (thn h4 fun _ s5 zz0=>?_)
  obtain ⟨x,H5,I5,r5,y5,st5,fr5⟩:=zz0
  have I5':=I5.pinned (stat fr5) (T.obj _ _ st5)
  refine wpAny_passesOwn hp (thn (hg _ s5 σ3 H5 x u _ I5' r5 (step x H5 y5)) fun _ s6 zz0=>?_)
  obtain ⟨σ6,H6,I6,q6⟩:=zz0
  refine wpAny_passesOwn hp (thn (hb _ s6 σ6 H6 _ I6 q6) fun f s7 q7=>?_)
  have again:∀ {σ7:St} {H7:Hp},Inv X (pins++Zb3 fp s5.heap) σ7 H7 s7->N σ7 H7->∃ m,m<n/\∃ i σ' H',Inv X pins σ' H' s7/\tn i s7.heap/\(∀ b∈fp,H' b=none)/\W i m σ' H':=fun {σ7 H7} I7 n7=>by
   obtain ⟨m',hm,w7⟩:=hN σ7 H7 n7
   refine ⟨m',hm,i+1,σ7,H7,I7.unpinned,T.keep _ _ _ st5 fun b hb o e=>(I7.pin (b,o) (List.mem_append_right _ (List.mem_append_right _ (JM hb e)))).1,fun b hb=>?_,w7⟩
   obtain ⟨o,e,d⟩:=T.obj _ _ st5 b hb
   exact (I7.pin (b,o) (List.mem_append_right _ (List.mem_append_right _ (JM hb e)))).2.1
  cases f with
  | next=>obtain ⟨σ7,H7,I7,n7⟩:=q7; exact again I7 n7
  | cont=>obtain ⟨σ7,H7,I7,n7⟩:=q7; exact again I7 n7
  | brk=>obtain ⟨σ7,H7,I7,q7⟩:=q7; exact ⟨σ7,H7,I7.unpinned,q7⟩
  | ret v=>obtain ⟨x7,σ7,H7,I7,r7,q7⟩:=q7; exact ⟨x7,σ7,H7,I7.unpinned,r7,q7⟩
end
theorem Zai {K:PySem.W.Frag} {a:Addr} {xs:List V} {g:TG} {tb:TS} {D:ZbF} {σ:St} {H:Hp} (Pv:Nat->St->Hp->Prop) (h0:Pv 0 σ H) (hl:∀ i σ H,i<=xs.length->Pv i σ H->SqL K H a xs)
  (hs:∀ i x σ H,xs[i]? = some x->Pv i σ H->g x σ H fun σ2 H2=>tb { D with nx:=Pv (i+1),ct:=Pv (i+1),bk:=D.nx } σ2 H2) (hd:∀ σ H,Pv xs.length σ H->D.nx σ H) :
  ∃ W:Nat->Nat->St->Hp->Prop,(∃ m,W 0 m σ H)/\∀ i m σ H,W i m σ H ->
   ((Itl K a).stop i H/\D.nx σ H)\/((Itl K a).go i H/\∃ N:St->Hp->Prop,(∀ σ' H',N σ' H'->∃ m',m'<m/\W (i+1) m' σ' H')/\∀ x H',(Itl K a).yld i H x H'->g x σ H' fun σ2 H2=>tb { D with nx:=N,ct:=N,bk:=D.nx } σ2 H2):=by
 refine ⟨fun i m σ H=>m=xs.length - i/\i<=xs.length/\Pv i σ H,⟨xs.length,by simp,Nat.zero_le _,h0⟩,?_⟩
 rintro i m σ H ⟨rfl,hi,p⟩
 have q:=hl i σ H hi p
 by_cases hlt:i<xs.length
 ·refine .inr ⟨⟨xs,xs[i],q,by simp [hlt]⟩,Pv (i+1),fun σ' H' p'=>⟨xs.length - (i+1),by exact Om.k45 hlt,rfl,hlt,p'⟩,fun x H' y=>?_⟩
  obtain ⟨e,y⟩:=y
  subst e
  exact hs i x σ _ (y xs q) p
 ·have e:i=xs.length:=by exact Om.k191 hi hlt
  subst e
  exact .inl ⟨⟨xs,q,Nat.le_refl _⟩,hd σ H p⟩
theorem ZU {lo:Int} {n:Nat} {g:TG} {tb:TS} {D:ZbF} {σ:St} {H:Hp} (Pv:Nat->St->Hp->Prop) (h0:Pv 0 σ H)
  (hs:∀ i σ H,i<n->Pv i σ H->g (.int (lo+i)) σ H fun σ2 H2=>tb { D with nx:=Pv (i+1),ct:=Pv (i+1),bk:=D.nx } σ2 H2) (hd:∀ σ H,Pv n σ H->D.nx σ H) :
  ∃ W:Nat->Nat->St->Hp->Prop,(∃ m,W 0 m σ H)/\∀ i m σ H,W i m σ H ->
   ((Itr lo n).stop i H/\D.nx σ H)\/((Itr lo n).go i H/\∃ N:St->Hp->Prop,(∀ σ' H',N σ' H'->∃ m',m'<m/\W (i+1) m' σ' H')/\∀ x H',(Itr lo n).yld i H x H'->g x σ H' fun σ2 H2=>tb { D with nx:=N,ct:=N,bk:=D.nx } σ2 H2):=by
 refine ⟨fun i m σ H=>m=n - i/\i<=n/\Pv i σ H,⟨n,by simp,Nat.zero_le _,h0⟩,?_⟩
 rintro i m σ H ⟨rfl,hi,p⟩
 by_cases hlt:i<n
 ·refine .inr ⟨hlt,Pv (i+1),fun σ' H' p'=>⟨n - (i+1),by exact Om.k45 hlt,rfl,hlt,p'⟩,fun x H' y=>?_⟩
  obtain ⟨e,y⟩:=y
  subst e y
  exact hs i σ _ hlt p
 ·have e:i=n:=by exact Om.k191 hi hlt
  subst e
  exact .inl ⟨Nat.le_refl _,hd σ H p⟩
end L2
namespace L2
open PySem PySem.Spec PyProof.Rows
noncomputable abbrev R2:=V->V->Hp->VK->Prop
noncomputable def OpR (X:Cx) (f:Value->Value->Sem Value) (r:R2):Prop :=
 ∀ (pins:List (Addr × Obj)) (s:Shared) (σ:St) (H:Hp) (x y:V) (v u:Value) (Q:VK),Inv X pins σ H s->RelV x v->RelV y u->r x y H Q ->
  wpAny (model X.prog X.w) X.A (f v u) (EP X pins σ Q) X.xe s
noncomputable def JV (X:Cx) (f:Value) (r:List V->Hp->VK->Prop):Prop :=
 ∀ (pins:List (Addr × Obj)) (s:Shared) (σ:St) (H:Hp) (xs:List V) (us:List Value) (Q:VK),Inv X pins σ H s->Vals xs us->r xs H Q ->
  wpAny (model X.prog X.w) X.A (call f us) (EP X pins σ Q) X.xe s
noncomputable def tOp (r:R2) (ta tb:TE):TE:=fun σ H Q=>ta σ H fun x H1=>tb σ H1 fun y H2=>r x y H2 Q
inductive RII (C:Int->Int->Prop) (g:Int->Int->V) (x:V) (y:V) (H:Hp) (Q:VK):Prop where
 | mk (i:Int) (j:Int) (_:x = .int i) (_:y = .int j) (_:C i j) (_:Q (g i j) H):RII C g x y H Q
noncomputable def rI (C:Int->Int->Prop) (g:Int->Int->V):R2:=fun x y H Q=>RII C g x y H Q
inductive Zk2 (g:Int->Int->V) (x:V) (y:V) (H:Hp) (Q:VK):Prop where
 | mk (i:Int) (j:Int) (_:x = .int i) (_:y = .int j) (_:Q (g i j) H):Zk2 g x y H Q
noncomputable def rI0 (g:Int->Int->V):R2:=fun x y H Q=>Zk2 g x y H Q
section
variable {X:Cx} {a b c:Expr} {ta tb tc:TE} {pos:Pos}
theorem Zkk (ha:PE X a ta) (hb:PE X b tb) {pins:List (Addr × Obj)} {s:Shared} {σ:St} {H:Hp} {R:V->V->Hp->Prop} (I:Inv X pins σ H s)
  (h:ta σ H fun x H1=>tb σ H1 fun y H2=>R x y H2) {Q:Value->Shared->Prop} {f:Value->Value->Sem Value}
  (hf:∀ v u s2 x y H2,Inv X pins σ H2 s2->RelV x v->RelV y u->R x y H2->wpAny (model X.prog X.w) X.A (f v u) Q X.xe s2) :
  wpAny (model X.prog X.w) X.A (eval a X.env) (fun v s₁=>wpAny (model X.prog X.w) X.A (eval b X.env) (fun u s₂=>wpAny (model X.prog X.w) X.A (f v u) Q X.xe s₂) X.xe s₁) X.xe s:=by
 refine thn (ha pins s σ H _ I h) fun v s1 zz0=>?_
 obtain ⟨x,H1,I1,r1,q1⟩:=zz0
 refine thn (hb pins s1 σ H1 _ I1 q1) fun u s2 zz0=>?_
 obtain ⟨y,H2,I2,r2,q2⟩:=zz0
 exact hf v u s2 x y H2 I2 r1 r2 q2
theorem Zl {op:Operator} {r:R2} (ho:OpR X (binaryOp op) r) (ha:PE X a ta) (hb:PE X b tb):PE X (.BinOp a op b pos) (tOp r ta tb):=by
 intro pins s σ H Q I h
 exact wpAny_BinOp (Zkk ha hb I h fun v u s2 x y H2 I2 rx ry q=>ho pins s2 σ H2 x y v u Q I2 rx ry q)
theorem opI {f:Value->Value->Sem Value} {C:Int->Int->Prop} {g:Int->Int->Int}
  (rule:∀ (i j:Int) (t u:Tok) (s:Shared) (Q:Value->Shared->Prop) (E:Value->Shared->Prop),C i j->Q (.int (g i j) s.toks) { s with toks:=s.toks+1 }->wpAny (model X.prog X.w) X.A (f (.int i t) (.int j u)) Q E s) :
  OpR X f (rI C fun i j=>.int (g i j)):=by
 intro pins s σ H x y v u Q I rx ry h
 obtain ⟨i,j,rfl,rfl,hc,q⟩:=h
 obtain ⟨t,rfl⟩:=rx
 obtain ⟨t',rfl⟩:=ry
 exact rule i j t t' s _ _ hc ⟨.int (g i j),H,I.tok _,⟨_,rfl⟩,q⟩
theorem Zln {f:Value->Value->Sem Value} {g:Int->Int->Int}
  (rule:∀ (i j:Int) (t u:Tok) (s:Shared) (Q:Value->Shared->Prop) (E:Value->Shared->Prop),Q (.int (g i j) s.toks) { s with toks:=s.toks+1 }->wpAny (model X.prog X.w) X.A (f (.int i t) (.int j u)) Q E s) :
  OpR X f (rI0 fun i j=>.int (g i j)):=by
 intro pins s σ H x y v u Q I rx ry h
 obtain ⟨i,j,rfl,rfl,q⟩:=h
 obtain ⟨t,rfl⟩:=rx
 obtain ⟨t',rfl⟩:=ry
 exact rule i j t t' s _ _ ⟨.int (g i j),H,I.tok _,⟨_,rfl⟩,q⟩
theorem Zj3 {f:Value->Value->Sem Value} {g:Int->Int->Bool}
  (rule:∀ (i j:Int) (t u:Tok) (s:Shared) (Q:Value->Shared->Prop) (E:Value->Shared->Prop),Q (.bool (g i j)) s->wpAny (model X.prog X.w) X.A (f (.int i t) (.int j u)) Q E s) :
  OpR X f (rI0 fun i j=>.bl (g i j)):=by
 intro pins s σ H x y v u Q I rx ry h
 obtain ⟨i,j,rfl,rfl,q⟩:=h
 obtain ⟨t,rfl⟩:=rx
 obtain ⟨t',rfl⟩:=ry
 exact rule i j t t' s _ _ ⟨.bl (g i j),H,I,rfl,q⟩
noncomputable def Zlu (i j:Int):Prop:=0<j/\j<1073741824
noncomputable def Zlt (i j:Int):Prop:=0<=j/\j<=1000000/\i.natAbs<2 ^ 64
noncomputable def CMul (i j:Int):Prop:=(-(2 ^ 64)<i/\i<2 ^ 64)\/(-(2 ^ 64)<j/\j<2 ^ 64)
theorem CMul.ok {i j:Int} (h:CMul i j):IntMulOk i j:=by
 rcases h with ⟨h1,h2⟩ | ⟨h1,h2⟩
 ·exact .of_left (intBits_le_64 h1 h2)
 ·exact .of_right (intBits_le_64 h1 h2)
theorem Yg:OpR X (binaryOp .Add) (rI0 fun i j=>.int (i+j)):=Zln fun _ _ _ _ _ _ _ q=>add_int q
theorem Yo:OpR X (binaryOp .Mult) (rI CMul fun i j=>.int (i*j)):=opI fun _ _ _ _ _ _ _ hc q=>mul_int q hc.ok
theorem ZS:OpR X (binaryOp .FloorDiv) (rI Zlu fun i j=>.int (i / j)):=opI fun i j _ _ _ _ _ hc q=>by
 have h1:(0:Int)<j:=hc.1
 have h2:j<1073741824:=hc.2
 exact floordiv_int (by exact Om.k141 h1 h2) (by rw [Int.fdiv_eq_ediv_of_nonneg i (by exact Om.k229 h1 h2)]; exact q) (.inl (PyProof.noPylong_small (by omega)))
theorem ZM:OpR X (binaryOp .Mod) (rI (fun _ j=>0<j) fun i j=>.int (i % j)):=opI fun i j _ _ _ _ _ hc q=>by
 have h1:(0:Int)<j:=hc
 exact mod_int' (by exact Om.k228 hc) (by rw [Int.fmod_eq_emod_of_nonneg i (by exact Om.k227 hc)]; exact q)
theorem Zj1:OpR X (binaryOp .Pow) (rI Zlt fun i j=>.int (i ^ j.toNat)):=opI fun _ _ _ _ _ _ _ hc q=>pow_int_small hc.1 hc.2.1 hc.2.2 q
end
noncomputable def ZkD:V->V->Bool
 | .non,.non=>true | .non,.int _=>true | .int _,.non=>true | .non,.bl _=>true | .bl _,.non=>true | .non,.str _=>true | .str _,.non=>true
 | .int _,.int _=>true | .bl _,.bl _=>true | .str _,.str _=>true | .byt _,.byt _=>true
 | .int _,.str _=>true | .str _,.int _=>true | .bl _,.str _=>true | .str _,.bl _=>true
 | _,_=>false
noncomputable def rEq:R2:=fun x y H Q=>ZkD x y=true/\Q (.bl (decide (x=y))) H
noncomputable def rNe:R2:=fun x y H Q=>ZkD x y=true/\Q (.bl (!decide (x=y))) H
theorem Zf3 {i j:Int}:decide (V.int i=V.int j)=(i==j):=by
 rw [Bool.eq_iff_iff]
 simp
theorem Zim {i j:Bool}:decide (V.bl i=V.bl j)=(i==j):=by
 rw [Bool.eq_iff_iff]
 simp
theorem Zf2 {i j:Str}:decide (V.str i=V.str j)=(i==j):=by
 rw [Bool.eq_iff_iff]
 simp
theorem Zf4 {i j:Array UInt8}:decide (V.byt i=V.byt j)=(i.toList==j.toList):=by
 rw [Bool.eq_iff_iff]
 cases i
 cases j
 simp
section
variable {X:Cx} {a b c:Expr} {ta tb tc:TE} {pos:Pos}
theorem ZL {pins:List (Addr × Obj)} {σ:St} {H:Hp} {s:Shared} {Q:VK} {k k':Bool} (I:Inv X pins σ H s) (q:Q (.bl k) H) (e:k=k'):EP X pins σ Q (.bool k') s:=by
 subst e
 exact ⟨.bl k,H,I,rfl,q⟩
theorem JD:OpR X (compareOp .Eq) rEq:=by
 intro pins s σ H x y v u Q I rx ry h
 obtain ⟨hs,q⟩:=h
 cases x with
 | non =>
  cases rx
  cases y with
  | non=>cases ry; exact PySem.EqNone.eq_none_none (ZL I q (by simp))
  | bl j=>cases ry; exact PySem.EqNone.eq_none_bool (ZL I q (by simp))
  | int j=>obtain ⟨t',rfl⟩:=ry; exact PySem.EqNone.eq_none_int (ZL I q (by simp))
  | str j=>obtain ⟨t',rfl⟩:=ry; exact PySem.EqNone.eq_none_str (ZL I q (by simp))
  | _=>exact absurd (show false=true from hs) Bool.false_ne_true
 | bl i =>
  cases rx
  cases y with
  | non=>cases ry; exact PySem.EqNone.eq_bool_none (ZL I q (by simp))
  | bl j=>cases ry; exact eq_bool (ZL I q Zim)
  | str j=>obtain ⟨t',rfl⟩:=ry; exact PySem.EqMixed.eq_bool_str (ZL I q (by simp))
  | _=>exact absurd (show false=true from hs) Bool.false_ne_true
 | int i =>
  obtain ⟨t,rfl⟩:=rx
  cases y with
  | non=>cases ry; exact PySem.EqNone.eq_int_none (ZL I q (by simp))
  | int j=>obtain ⟨t',rfl⟩:=ry; exact eq_int (ZL I q Zf3)
  | str j=>obtain ⟨t',rfl⟩:=ry; exact PySem.EqMixed.eq_int_str (ZL I q (by simp))
  | _=>exact absurd (show false=true from hs) Bool.false_ne_true
 | str i =>
  obtain ⟨t,rfl⟩:=rx
  cases y with
  | non=>cases ry; exact PySem.EqNone.eq_str_none (ZL I q (by simp))
  | bl j=>cases ry; exact PySem.EqMixed.eq_str_bool (ZL I q (by simp))
  | int j=>obtain ⟨t',rfl⟩:=ry; exact PySem.EqMixed.eq_str_int (ZL I q (by simp))
  | str j=>obtain ⟨t',rfl⟩:=ry; exact eq_str (ZL I q Zf2)
  | _=>exact absurd (show false=true from hs) Bool.false_ne_true
 | byt i =>
  obtain ⟨t,rfl⟩:=rx
  cases y with
  | byt j=>obtain ⟨t',rfl⟩:=ry; exact PySem.W.eq_bytes (ZL I q Zf4)
  | _=>exact absurd (show false=true from hs) Bool.false_ne_true
 | _=>cases y <;> exact absurd (show false=true from hs) Bool.false_ne_true
theorem Zjw:OpR X (compareOp .NotEq) rNe:=by
 intro pins s σ H x y v u Q I rx ry h
 obtain ⟨hs,q⟩:=h
 cases x with
 | non =>
  cases rx
  cases y with
  | non=>cases ry; exact PySem.EqNone.ne_none_none (ZL I q (by simp))
  | bl j=>cases ry; exact PySem.EqNone.ne_none_bool (ZL I q (by simp))
  | int j=>obtain ⟨t',rfl⟩:=ry; exact PySem.EqNone.ne_none_int (ZL I q (by simp))
  | str j=>obtain ⟨t',rfl⟩:=ry; exact PySem.EqNone.ne_none_str (ZL I q (by simp))
  | _=>exact absurd (show false=true from hs) Bool.false_ne_true
 | bl i =>
  cases rx
  cases y with
  | non=>cases ry; exact PySem.EqNone.ne_bool_none (ZL I q (by simp))
  | bl j=>cases ry; exact ne_bool (ZL I q (congrArg not Zim))
  | str j=>obtain ⟨t',rfl⟩:=ry; exact PySem.EqMixed.ne_bool_str (ZL I q (by simp))
  | _=>exact absurd (show false=true from hs) Bool.false_ne_true
 | int i =>
  obtain ⟨t,rfl⟩:=rx
  cases y with
  | non=>cases ry; exact PySem.EqNone.ne_int_none (ZL I q (by simp))
  | int j=>obtain ⟨t',rfl⟩:=ry; exact ne_int (ZL I q (congrArg not Zf3))
  | str j=>obtain ⟨t',rfl⟩:=ry; exact PySem.EqMixed.ne_int_str (ZL I q (by simp))
  | _=>exact absurd (show false=true from hs) Bool.false_ne_true
 | str i =>
  obtain ⟨t,rfl⟩:=rx
  cases y with
  | non=>cases ry; exact PySem.EqNone.ne_str_none (ZL I q (by simp))
  | bl j=>cases ry; exact PySem.EqMixed.ne_str_bool (ZL I q (by simp))
  | int j=>obtain ⟨t',rfl⟩:=ry; exact PySem.EqMixed.ne_str_int (ZL I q (by simp))
  | str j=>obtain ⟨t',rfl⟩:=ry; exact ne_str (ZL I q (congrArg not Zf2))
  | _=>exact absurd (show false=true from hs) Bool.false_ne_true
 | byt i =>
  obtain ⟨t,rfl⟩:=rx
  cases y with
  | byt j=>obtain ⟨t',rfl⟩:=ry; exact PySem.W.ne_bytes (ZL I q (congrArg not Zf4))
  | _=>exact absurd (show false=true from hs) Bool.false_ne_true
 | _=>cases y <;> exact absurd (show false=true from hs) Bool.false_ne_true
theorem ZhI:OpR X (compareOp .Lt) (rI0 fun i j=>.bl (decide (i<j))):=Zj3 fun _ _ _ _ _ _ _ q=>lt_int q
theorem ZkO:OpR X (compareOp .LtE) (rI0 fun i j=>.bl (decide (i<=j))):=Zj3 fun _ _ _ _ _ _ _ q=>le_int q
theorem Zb4:OpR X (compareOp .Gt) (rI0 fun i j=>.bl (decide (j<i))):=Zj3 fun _ _ _ _ _ _ _ q=>gt_int q
theorem ZN (b:Expr) {op:CmpOp} (h:op ≠ .In:=by decide) (h2:op ≠ .NotIn:=by decide):behindInMarks op b=false:=by
 have e1:(op==CmpOp.In)=false:=by cases op <;> first | rfl | exact absurd rfl h
 have e2:(op==CmpOp.NotIn)=false:=by cases op <;> first | rfl | exact absurd rfl h2
 cases b <;> simp [behindInMarks,e1,e2]
theorem Zdx {op:CmpOp} {r:R2} (ho:OpR X (compareOp op) r) (ha:PE X a ta) (hb:PE X b tb) (hm:behindInMarks op b=false):PE X (.Compare a [op] [b] pos) (tOp r ta tb):=by
 intro pins s σ H Q I h
 exact wpAny_Compare1 (Zkk ha hb I h fun v u s2 x y H2 I2 rx ry q=>ho pins s2 σ H2 x y v u Q I2 rx ry q) hm
noncomputable def Zkr (t:TE):TT:=fun σ H Q=>t σ H fun x H'=>Zkm x Q H'
theorem Zx {op:CmpOp} {r:R2} (ho:OpR X (compareOp op) r) (ha:PE X a ta) (hb:PE X b tb) (hm:behindInMarks op b=false):PT X (.Compare a [op] [b] pos) (Zkr (tOp r ta tb)):=by
 intro pins s σ H Q I h
 refine wpAny_isTrue_Compare1 (thn (ha pins s σ H _ I h) fun v s1 ⟨x,H1,I1,r1,q1⟩=>thn (hb pins s1 σ H1 _ I1 q1) fun u s2 ⟨y,H2,I2,r2,q2⟩ =>
  thn (ho pins s2 σ H2 x y v u _ I2 r1 r2 q2) fun c s3 ⟨z,H3,I3,r3,k,e,q3⟩=>?_) hm
 subst e
 cases r3
 exact wpAny_truthy_bool ⟨H3,I3,q3⟩
theorem Zfj:(sizeLine:Nat)<2 ^ 63:=by rw [sizeLine_eq]; decide
theorem ZaG {x:V} {us:List Value} (r:Vals [x] us):∃ u,us=[u]/\RelV x u:=by
 cases r with
 | cons r1 r2=>cases r2; exact ⟨_,rfl,r1⟩
theorem ZgZ:JV X (.type "int") (fun xs H Q=>(∃ i,xs=[.int i]/\Q (.int i) H)\/∃ k,xs=[.bl k]/\Q (.int (if k then 1 else 0)) H):=by
 intro pins s σ H xs us Q I r h
 rcases h with ⟨i,rfl,q⟩ | ⟨k,rfl,q⟩
 ·obtain ⟨u,rfl,t,rfl⟩:=ZaG r
  exact call_int_int ⟨.int i,H,I,⟨_,rfl⟩,q⟩
 ·obtain ⟨u,rfl,r1⟩:=ZaG r
  cases r1
  exact call_int_bool ⟨.int (if k then 1 else 0),H,I.tok _,⟨_,rfl⟩,q⟩
end
end L2
namespace L2
open PySem PySem.Spec PyProof.Rows
structure ObjM (h:Heap) (x dx C:Addr) (mA:Str->Option Value):Prop where
 obj:h.get? x=some (PySem.W.instObj C dx)
 ns:h.Ns1 dx mA
 ne:dx≠x
theorem ZgI {h:Heap} {dx:Addr} {mA:Str->Option Value} (n:h.Ns1 dx mA):∃ od,h.get? dx=some od/\∀ name,PySem.W.lookIn name od=some (mA name):=by
 obtain ⟨o,es,ep,ho,hd,hk,_,hm⟩:=n
 refine ⟨o,ho,fun name=>?_⟩
 have e:=hm name
 unfold nsFind findBy at e
 rw [<- Array.find?_toList] at e
 unfold PySem.W.lookIn
 rw [hd]
 dsimp only
 split
 ·rename_i y q
  rw [q] at e
  exact congrArg some e
 ·rename_i q
  rw [q] at e
  have a:es.toList.any (·.refKey)=false:=by
   rw [List.any_eq_false]
   intro y hy
   obtain ⟨z,t,hkey⟩:=hk y (Array.mem_toList_iff.mp hy)
   simp [DictEntry.refKey,hkey]
  have a':¬ es.toList.any (·.refKey)=true:=by rw [a]; exact Bool.false_ne_true
  rw [if_neg a']
  exact congrArg some e
theorem ObjM.look {h:Heap} {x dx C:Addr} {mA:Str->Option Value} (I:ObjM h x dx C mA):∃ od,PySem.W.InstAt h x (PySem.W.instObj C dx) C (some od)/\∀ name,PySem.W.lookIn name od=some (mA name) :=
 let ⟨od,ho,hl⟩:=ZgI I.ns
 ⟨od,⟨I.obj,rfl,rfl,ho⟩,hl⟩
section
variable {prog:Program} {w:World} {A:Around} {E:Value->Shared->Prop} {s:Shared} {K:PySem.W.Frag} {x dx C f:Addr} {mA:Str->Option Value} {name:Str} {v:Value}
theorem Zja {expr:Bool} {Q:Value->Shared->Prop} (X:K.In s.heap) (I:ObjM s.heap x dx C mA) (hg:PySem.W.plainGet K C name=true) (hh:PySem.W.hasDictIn K C=true)
  (ha:PySem.W.findIn K (.ref C) name=some none) (hv:mA name=some v) (hv':PySem.W.handedIn v=true) (h:Q v { s with toks:=s.toks+1 }) :
  wpAny (model prog w) A (getAttr (.ref x) name expr) Q E s:=by
 obtain ⟨od,J,hl⟩:=I.look
 exact PySem.W.get_value X J (PySem.W.plainGet_of hg).1 (PySem.W.findObj_own hh ha rfl (by rw [hl,hv])) hv' h
theorem Zh7 {pl:Sem Bool} {Q:Value × List Value->Shared->Prop} (X:K.In s.heap) (I:ObjM s.heap x dx C mA) (hg:PySem.W.plainGet K C name=true)
  (hf:PySem.W.findIn K (.ref C) name=some (some (.ref f))) (ht:PySem.W.isFn K (.ref f)=true) (hv:mA name=none) (h:Q (.ref f,[.ref x]) s) :
  wpAny (model prog w) A (getMethod (.ref x) name pl) Q E s:=by
 obtain ⟨od,J,hl⟩:=I.look
 exact PySem.W.method_fn X J (PySem.W.plainGet_of hg).1 (PySem.W.plainGet_of hg).2 hf (beq_iff_eq.mp ht) (by show (PySem.W.lookIn name od).map (·.isSome)=some false; rw [hl,hv]; rfl) h
theorem ZiC {ns:List Str} {Q:Unit->Shared->Prop} (X:K.In s.heap) (I:ObjM s.heap x dx C mA)
  (hs:PySem.W.findIn K (.ref C) "__setattr__" = some (some (.builtin "object.__setattr__"))) (hp:PySem.W.plainOver K C=true) (ht:PySem.W.takerIn K C name=some none) (hh:PySem.W.hasDictIn K C=true)
  (hw:PySem.Within mA ns) (hsz:ns.length<=sizeLine)
  (h:∀ h',ObjM h' x dx C (fun y=>if y=name then some v else mA y)->Heap.SameBut dx s.heap h'->Q () { s with heap:=h',toks:=s.toks+2 }) :
  wpAny (model prog w) A (setAttr (.ref x) name v) Q E s:=by
 obtain ⟨od,J,hl⟩:=I.look
 refine PySem.W.set_plain X J hs (PySem.W.osa_open (s:={ s with toks:=s.toks+1 }) (r:=none) X J hp ht fun b=>?_)
 obtain ⟨cd,hc,hd'⟩:=PySem.W.any_some hh
 have hx:s.heap.get? x=some ⟨.ref C,some dx,.plain,#[]⟩:=I.obj
 refine wpAny_bind (wpAny_pure (wpAny_bind (wpAny_bind (wpAny_loadPart hx (wpAny_bind (PySem.W.Looks.here (s:={ s with toks:=s.toks+1 }) (PySem.W.looks_clsIn X hc) ?_))))))
 rw [hd']
 refine wpAny_pure (a:=some dx) (wpAny_bind (wpAny_pure (wpAny_bind ?_)))
 refine wpAny_nsSet1 (s:={ s with toks:=s.toks+1 }) I.ns fun h' hn2 hs2=>?_
 obtain ⟨oD,esD,epD,hoD,hdD,hcD⟩:=hn2.count (PySem.Within.cons name v hw)
 refine wpAny_bind (wpAny_lookBehind hoD (by rw [hdD]; exact pastItsLine_dict (Nat.le_trans hcD (by rw [List.length_cons]; exact Om.k226 hsz))) ?_)
 exact wpAny_pure (h _ ⟨(hs2.2 _ (Ne.symm I.ne)).trans I.obj,hn2,I.ne⟩ hs2)
theorem ZhW {R:Result->Shared->Prop} {vs:List Value} {kw:List (Str × Value)} (X:K.In s.heap) (hm:PySem.W.makesIn K C=true)
  (hi:PySem.W.findIn K (.ref C) "__init__" = some (some (.ref f))) (hf:PySem.W.typeIn K (.ref f)=some (.type "function"))
  (h:codeAny (model prog w) (A.under (.builtin "type.__call__" ⟨.ref C::vs,kw⟩)) (.call (.ref f) ⟨.ref (s.heap.objs.size+1)::vs,kw⟩) (PySem.W.InitBack (s.heap.objs.size+1) R)
   { s with heap:=(s.heap.push PySem.W.emptyDict).push (PySem.W.instObj C s.heap.objs.size) }) :
  codeAny (model prog w) A (.call (.ref C) ⟨vs,kw⟩) R s:=by
 obtain ⟨hh,g,d,t,os⟩:=s
 exact PySem.W.make_core (PySem.W.makes_of X hm) (PySem.W.looks_findIn X hi) (fun self=>PySem.W.bind_fn X self hf) (.inl rfl) h
end
noncomputable def Zad (f:Str) (v:V):List (Str × V)->List (Str × V)
 | []=>[(f,v)]
 | (g,x)::r=>if g=f then (g,v)::r else (g,x)::Zad f v r
theorem Zbq (f g:Str) (v:V):∀ fs:List (Str × V),(Zad f v fs).lookup g=if g=f then some v else fs.lookup g
 | []=>by
  show List.lookup g [(f,v)]=_
  by_cases h:g=f
  ·have hb:(g==f)=true:=beq_iff_eq.mpr h
   simp only [List.lookup,hb,if_pos h]
  ·have hb:(g==f)=false:=beq_eq_false_iff_ne.mpr h
   simp only [List.lookup,hb,if_neg h]
 | (k,x)::r=>by
  have ih:=Zbq f g v r
  rw [show Zad f v ((k,x)::r)=(if k=f then (k,v)::r else (k,x)::Zad f v r) from rfl]
  by_cases hk:k=f
  ·rw [if_pos hk]
   by_cases h:g=k
   ·have hb:(g==k)=true:=beq_iff_eq.mpr h
    simp only [List.lookup,hb,if_pos (h.trans hk)]
   ·have hb:(g==k)=false:=beq_eq_false_iff_ne.mpr h
    simp only [List.lookup,hb,if_neg (fun e:g=f=>h (e.trans hk.symm))]
  ·rw [if_neg hk]
   by_cases h:g=k
   ·have hb:(g==k)=true:=beq_iff_eq.mpr h
    simp only [List.lookup,hb,if_neg (fun e:g=f=>hk (h.symm.trans e))]
   ·have hb:(g==k)=false:=beq_eq_false_iff_ne.mpr h
    simp only [List.lookup,hb]
    exact ih
theorem Zbe (f:Str) (v:V):∀ fs:List (Str × V),f∈(Zad f v fs).map (·.1)/\∀ g,g∈fs.map (·.1)->g∈(Zad f v fs).map (·.1)
 | []=>⟨by simp [Zad],fun g h=>by simp at h⟩
 | (k,x)::r=>by
  obtain ⟨i1,i2⟩:=Zbe f v r
  rw [show Zad f v ((k,x)::r)=(if k=f then (k,v)::r else (k,x)::Zad f v r) from rfl]
  by_cases hk:k=f
  ·rw [if_pos hk]
   subst hk
   exact ⟨by simp,fun g h=>by simpa using h⟩
  ·rw [if_neg hk]
   refine ⟨?_,fun g h=>?_⟩
   ·rw [List.map_cons]
    exact List.mem_cons_of_mem _ i1
   ·rw [List.map_cons] at h ⊢
    rcases List.mem_cons.mp h with e | e
    ·exact List.mem_cons.mpr (.inl e)
    ·exact List.mem_cons_of_mem _ (i2 g e)
theorem Zbu (f:Str) (v:V):∀ fs:List (Str × V),(Zad f v fs).length<=fs.length+1
 | []=>by simp [Zad]
 | (k,x)::r=>by
  have ih:=Zbu f v r
  rw [show Zad f v ((k,x)::r)=(if k=f then (k,v)::r else (k,x)::Zad f v r) from rfl]
  by_cases hk:k=f
  ·rw [if_pos hk,List.length_cons,List.length_cons]; omega
  ·rw [if_neg hk,List.length_cons,List.length_cons]; omega
theorem RelO.some_of {v:V} {o:Option Value} (r:RelO (some v) o):∃ u,o=some u/\RelV v u:=by
 cases o with
 | none=>exact (show False from r).elim
 | some u=>exact ⟨u,rfl,r⟩
theorem RelO.none_of {o:Option Value} (r:RelO none o):o=none:=by
 cases o with
 | none=>rfl
 | some u=>exact (show False from r).elim
theorem ZgR {v:V} {u:Value} (r:RelV v u):PySem.W.handedIn u=true:=by
 cases v with
 | non=>cases (show u=Value.none from r); rfl
 | bl b=>cases (show u=Value.bool b from r); rfl
 | int i=>obtain ⟨t,e⟩:=(show ∃ t,u=Value.int i t from r); cases e; rfl
 | str x=>obtain ⟨t,e⟩:=(show ∃ t,u=Value.str x t from r); cases e; rfl
 | byt b=>obtain ⟨t,e⟩:=(show ∃ t,u=Value.bytes b t from r); cases e; rfl
 | flt b=>obtain ⟨t,e⟩:=(show ∃ t,u=Value.float b t from r); cases e; rfl
 | ref a=>cases (show u=Value.ref a from r); rfl
 | ty n=>cases (show u=Value.type n from r); rfl
section
variable {P:Program} {w:World} {H H':Hp} {h h':Heap} {a C dx:Addr} {fs fs':List (Str × V)}
theorem ZdG (hok:HOk P w H h) (e:H a=some (.ins C dx fs)):∃ mA,ObjM h a dx C mA/\(∀ f,RelO (fs.lookup f) (mA f))/\PySem.Within mA (fs.map (·.1))/\fs.length<=1000/\H dx=some (.own a):=by
 obtain ⟨d,z,ne,ob,mA,n,r,q⟩:=(show ObjOk P w H h a (.ins C dx fs) from hok a _ e)
 exact ⟨mA,⟨ob,n,ne⟩,r,q,z,d⟩
end
structure Cls (K:PySem.W.Frag) (C:Addr):Prop where
 pg:PySem.W.plainGet K C Str.empty=true
 hd:PySem.W.hasDictIn K C=true
 po:PySem.W.plainOver K C=true
 sa:PySem.W.findIn K (.ref C) "__setattr__" = some (some (.builtin "object.__setattr__"))
theorem Cls.get {K:PySem.W.Frag} {C:Addr} (c:Cls K C) (f:Str):PySem.W.plainGet K C f=true:=c.pg
noncomputable def NoAttr (K:PySem.W.Frag) (C:Addr) (f:Str):Prop:=PySem.W.findIn K (.ref C) f=some none
theorem NoAttr.taker {K:PySem.W.Frag} {C:Addr} {f:Str} (n:NoAttr K C f):PySem.W.takerIn K C f=some none:=by
 unfold PySem.W.takerIn
 rw [show PySem.W.findIn K (.ref C) f=some none from n]
 rfl
structure Zkl (K:PySem.W.Frag) (C:Addr) (m:Str) (f:Addr):Prop where
 at_:PySem.W.findIn K (.ref C) m=some (some (.ref f))
 fn:PySem.W.isFn K (.ref f)=true
 kp:PySem.W.keepIn K (.ref f)=true
section
variable {X:Cx} {pins:List (Addr × Obj)} {σ:St} {H:Hp} {s:Shared} {a C dx:Addr} {fs:List (Str × V)} {f:Str} {v:V} {A:Around} {E:Value->Shared->Prop}
theorem Zfl {b:Bool} {Q:Value->Shared->Prop} (I:Inv X pins σ H s) (e:H a=some (.ins C dx fs)) (c:Cls X.K C) (n:NoAttr X.K C f) (l:fs.lookup f=some v)
  (h:∀ u s',Inv X pins σ H s'->RelV v u->Q u s'):wpAny (model X.prog X.w) A (getAttr (.ref a) f b) Q E s:=by
 obtain ⟨mA,O,r,_,_,_⟩:=ZdG I.hok e
 obtain ⟨u,hu,ru⟩:=RelO.some_of (v:=v) (o:=mA f) (by rw [<- l]; exact r f)
 exact Zja I.kIn O (c.get f) c.hd n hu (ZgR ru) (h u _ (I.tok _) ru)
theorem Zfk {m:Str} {g:Addr} {pl:Sem Bool} {Q:Value × List Value->Shared->Prop} (I:Inv X pins σ H s) (e:H a=some (.ins C dx fs)) (c:Cls X.K C) (k:Zkl X.K C m g) (l:fs.lookup m=none)
  (h:Q (.ref g,[.ref a]) s):wpAny (model X.prog X.w) A (getMethod (.ref a) m pl) Q E s:=by
 obtain ⟨mA,O,r,_,_,_⟩:=ZdG I.hok e
 have hn:mA m=none:=RelO.none_of (by rw [<- l]; exact r m)
 exact Zh7 I.kIn O (c.get m) k.at_ k.fn hn h
theorem Ze7 {y:V} {u:Value} {Q:Unit->Shared->Prop} (I:Inv X pins σ H s) (e:H a=some (.ins C dx fs)) (c:Cls X.K C) (n:NoAttr X.K C f) (hl:fs.length<1000) (ry:RelV y u)
  (h:∀ s',Inv X pins σ (upd H a (.ins C dx (Zad f y fs))) s'->Q () s'):wpAny (model X.prog X.w) A (setAttr (.ref a) f u) Q E s:=by
 obtain ⟨mA,O,r,wi,_,ho⟩:=ZdG I.hok e
 have hz:(fs.map (·.1)).length<=sizeLine:=by rw [List.length_map,sizeLine_eq]; exact Om.b1 ‹_› rfl
 refine ZiC I.kIn O c.sa c.po n.taker c.hd wi hz fun h' O' sb=>h _ ?_
 have hd:∃ o,h'.get? dx=some o:=let ⟨o,_,_,e',_⟩:=O'.ns; ⟨o,e'⟩
 refine I.write (x:=a) (e:=dx) (by rw [e]; exact True.intro) (.inr ho) (fun b q hb z=>(sb.2 b hb).trans z) hd ?_
 refine ⟨by rw [Zh O.ne]; exact ho,?_,O.ne,O'.obj,_,O'.ns,fun g=>?_,fun g hg=>?_⟩
 ·have:=Zbu f y fs; omega
 ·show RelO ((Zad f y fs).lookup g) (if g=f then some u else mA g)
  rw [Zbq]
  by_cases q:g=f
  ·rw [if_pos q,if_pos q]; exact ry
  ·rw [if_neg q,if_neg q]; exact r g
 ·by_cases q:g=f
  ·rw [q]; exact (Zbe f y fs).1
  ·refine (Zbe f y fs).2 g (wi g fun z=>hg ?_)
   show (if g=f then some u else mA g)=none
   rw [if_neg q]; exact z
theorem Inv.made (I:Inv X pins σ H s):Inv X pins σ (upd (upd H s.heap.objs.size (.own (s.heap.objs.size+1))) (s.heap.objs.size+1) (.ins C s.heap.objs.size []))
  { s with heap:=(s.heap.push PySem.W.emptyDict).push (PySem.W.instObj C s.heap.objs.size) }:=by
 have e1:(s.heap.push PySem.W.emptyDict).get? s.heap.objs.size=some PySem.W.emptyDict:=Heap.get?_push_size s.heap rfl
 have e2:((s.heap.push PySem.W.emptyDict).push (PySem.W.instObj C s.heap.objs.size)).get? (s.heap.objs.size+1)=some (PySem.W.instObj C s.heap.objs.size):=by
  have:=Heap.get?_push_size (s.heap.push PySem.W.emptyDict) (o:=PySem.W.instObj C s.heap.objs.size) rfl
  rwa [Heap.size_push] at this
 have e3:(s.heap.push PySem.W.emptyDict).Ns s.heap.objs.size (fun _=>none):=⟨PySem.W.emptyDict,#[],_,e1,rfl,(fun e he=>absurd he (by simp)),fun _=>rfl⟩
 have I1:=I.laid (a:=s.heap.objs.size) (o:=.own (s.heap.objs.size+1)) (h':=s.heap.push PySem.W.emptyDict) (t':=s.toks) (fun b u q=>Heap.get?_push_of_some _ q) (Nat.le_refl _) ⟨_,e1⟩
 refine I1.laid (a:=s.heap.objs.size+1) (o:=.ins C s.heap.objs.size []) (t':=s.toks) (fun b u q=>Heap.get?_push_of_some _ q) (Nat.le_of_eq (Heap.size_push _ _)) ?_
 have ne:s.heap.objs.size≠s.heap.objs.size+1:=Nat.ne_of_lt (Nat.lt_succ_self _)
 refine ⟨by rw [Zh ne,Zd],Nat.zero_le _,ne,e2,fun _=>none,(Heap.Ns1.of_empty e3).at fun o q=>Heap.get?_push_of_some _ q,fun _=>True.intro,fun y hy=>absurd rfl hy⟩
theorem Zjo {prog:Program} {w:World} {env:Env} {e:Expr} {f:Str} {pos:Pos} {s:Shared} {Q:Value->Shared->Prop} (hb:attributeBase e f env (eval e env)=eval e env)
  (h:wpAny (model prog w) A (eval e env) (fun o s₁=>wpAny (model prog w) A (getAttr o f true) Q E s₁) E s):wpAny (model prog w) A (eval (.Attribute e f pos) env) Q E s :=
 Attribute_any_ h (by rw [arm_eval_Attribute,hb])
end
noncomputable def Zlc (K:PySem.W.Frag) (ta:TE) (f:Str):TE:=fun σ H Q=>ta σ H fun x H1=>∃ a C dx fs v,x = .ref a/\H1 a=some (.ins C dx fs)/\Cls K C/\NoAttr K C f/\fs.lookup f=some v/\Q v H1
noncomputable def Zlg (K:PySem.W.Frag) (ta tv:TE) (f:Str):TS:=fun D σ H=>tv σ H fun y H1=>ta σ H1 fun x H2=>∃ a C dx fs,x = .ref a/\H2 a=some (.ins C dx fs)/\Cls K C/\NoAttr K C f/\fs.length<1000 /\
 D.nx σ (upd H2 a (.ins C dx (Zad f y fs)))
section
variable {X:Cx} {o e value:Expr} {f:Str} {pos pos' tpos:Pos} {ta tv:TE}
theorem Zdv (he:PE X e ta) (hb:attributeBase e f X.env (eval e X.env)=eval e X.env):PE X (.Attribute e f pos) (Zlc X.K ta f):=by
 intro pins s σ H Q I h
 refine Zjo hb (thn (he pins s σ H _ I h) fun u s1 zz0=>?_)
 obtain ⟨x,H1,I1,rx,a,C,dx,fs,v,ex,ea,c,n,l,q⟩:=zz0
 subst ex
 obtain rfl:u=Value.ref a:=rx
 exact Zfl I1 ea c n l fun u' s2 I2 ru=>⟨v,H1,I2,ru,q⟩
theorem Ze9 (ha:PE X o ta) (hv:PE X value tv) (hs:swapsWith value (some (.Attribute o f pos')) pos.line X.env=pure false):PS X (.Assign [.Attribute o f pos'] value pos) (Zlg X.K ta tv f):=by
 intro pins s σ H D I h
 refine plainObj_wpAny_Assign_Attribute (thn (hv pins s σ H _ I h) fun u s1 ⟨y,H1,I1,ry,q⟩=>thn (ha pins s1 σ H1 _ I1 q) fun ov s2 zz0=>?_) hs
 obtain ⟨x,H2,I2,rx,a,C,dx,fs,ex,ea,c,n,l,q2⟩:=zz0
 subst ex
 obtain rfl:ov=Value.ref a:=rx
 exact Ze7 I2 ea c n l ry fun s3 I3=>⟨σ,_,I3,q2⟩
end
section
variable {X:Cx} {pins:List (Addr × Obj)} {σ:St} {H:Hp} {s:Shared} {A:Around} {E:Value->Shared->Prop} {Q:Value->Shared->Prop} {c:Value} {b:Bool}
end
end L2
namespace L2
open PySem PySem.Spec PyProof.Rows
structure Room (k:Nat) (A:Around):Prop where
 hd:A.handled=none
 dp:A.depth+3*k+5<recursionLimit
 un:A.units+16*k+200<cLine
theorem Room.mono {j k:Nat} {A:Around} (r:Room k A) (h:j<=k):Room j A:=⟨r.hd,by have:=r.dp; omega,by have:=r.un; omega⟩
theorem Room.deeper {k:Nat} {A:Around} (r:Room (k+1) A) (env:Env):Room k (A.deeper env) :=
 ⟨r.hd,by have:=r.dp; show A.depth+1+3*k+5<_; exact Om.k225 this,by have:=r.un; show A.units+3+16*k+200<_; exact Om.k224 this⟩
theorem Room.in1 {k:Nat} {A:Around} (r:Room (k+1) A):Room k A.in1 :=
 ⟨r.hd,by have:=r.dp; show A.depth+3*k+5<_; exact Om.k223 this,by have:=r.un; show A.units+1+16*k+200<_; exact Om.k222 this⟩
theorem Zfi {A:Around} {C:Addr} {us:List Value} {kw:List (Str × Value)}:(A.under (.builtin "type.__call__" ⟨.ref C::us,kw⟩)).depth=A.depth+1:=by
 first | rfl | simp [Around.under,Code.weight,Code.isCreation,Code.isGuard,Code.isCaller,Code.frames,Code.isFrame,guardIds]
theorem Zfh {A:Around} {C:Addr} {us:List Value} {kw:List (Str × Value)}:(A.under (.builtin "type.__call__" ⟨.ref C::us,kw⟩)).units=A.units+1:=by
 first | rfl | simp [Around.under,Code.cUnits,Code.frames,Code.isFrame]
theorem Room.make {k:Nat} {A:Around} (r:Room (k+1) A) (C:Addr) (us:List Value) (kw:List (Str × Value)):Room k (A.under (.builtin "type.__call__" ⟨.ref C::us,kw⟩)) :=
 ⟨r.hd,by have:=r.dp; rw [Zfi]; omega,by have:=r.un; rw [Zfh]; omega⟩
theorem Room.depth {k:Nat} {A:Around} (r:Room k A):A.depth<recursionLimit:=by have:=r.dp; omega
theorem Room.units {k:Nat} {A:Around} (r:Room k A):A.units+64<cLine:=by have:=r.un; omega
noncomputable def Zkv:TA:=fun _ H Q=>Q [] H
noncomputable def ZkB (ta:TE) (tr:TA):TA:=fun σ H Q=>ta σ H fun x H1=>tr σ H1 fun xs H2=>Q (x::xs) H2
section
variable {X:Cx} {e:Expr} {es:List Expr} {te:TE} {t:TA} {pos:Pos}
theorem Zc:PA X [] Zkv:=fun _ _ _ _ H Q I h=>Calls.spliced_nil ⟨[],H,I,.nil,h⟩
theorem Za (ha:PE X e te) (hr:PA X es t) (hs:starEach (e::es) X.env=(false,eval e X.env)::starEach es X.env:=by rfl):PA X (e::es) (ZkB te t):=by
 intro pos pins s σ H Q I h
 rw [hs]
 show wpAny _ _ (spliced ((false,eval e X.env)::backTo pos (starEach es X.env))) _ _ s
 refine Calls.spliced_cons (thn (ha pins s σ H _ I h) fun u s1 zz0=>?_)
 obtain ⟨x,H1,I1,r1,q1⟩:=zz0
 exact thn (hr pos pins s1 σ H1 _ I1 q1) fun us s2 ⟨xs,H2,I2,r2,q2⟩=>⟨x::xs,H2,I2,.cons r1 r2,q2⟩
noncomputable def Zk5 (t:TA):TE:=fun σ H Q=>t σ H fun xs H1=>xs.length<=sizeLine/\∀ p,H1 p=none->Q (.ref p) (upd H1 p (.tup xs))
noncomputable def Zk8 (t:TA):TE:=fun σ H Q=>t σ H fun xs H1=>xs.length<=sizeLine/\∀ p,H1 p=none->Q (.ref p) (upd H1 p (.lst xs))
theorem ZH {x1} (h:PA X es t):PE X (.Tuple es x1 pos) (Zk5 t):=by
 intro pins s σ H Q I hq
 refine wpAny_Tuple_spliced (thn (h pos pins s σ H _ I hq) fun us s1 ⟨xs,H1,I1,r,z,q⟩=>⟨by rw [<- r.length]; exact z,?_⟩)
 have hf:H1 s1.heap.objs.size=none:=I1.hok.fresh (Nat.le_refl _)
 refine ⟨.ref s1.heap.objs.size,upd H1 s1.heap.objs.size (.tup xs),I1.laid (t':=s1.toks) (fun b u e=>Heap.get?_push_of_some _ e) (Nat.le_refl _) ?_,rfl,q _ hf⟩
 exact ⟨z,us,r,⟨_,Heap.get?_push_size _ rfl,rfl,_,rfl⟩⟩
theorem Yv (h:PA X es t):PE X (.List es pos) (Zk8 t):=by
 intro pins s σ H Q I hq
 refine wpAny_List_spliced (thn (h pos pins s σ H _ I hq) fun us s1 ⟨xs,H1,I1,r,z,q⟩=>⟨by rw [<- r.length]; exact z,?_⟩)
 have hf:H1 s1.heap.objs.size=none:=I1.hok.fresh (Nat.le_refl _)
 refine ⟨.ref s1.heap.objs.size,upd H1 s1.heap.objs.size (.lst xs),I1.laid (t':=s1.toks) (fun b u e=>Heap.get?_push_of_some _ e) (Nat.le_refl _) ?_,rfl,q _ hf⟩
 exact ⟨z,us,0,r,Heap.get?_push_size _ rfl⟩
end
noncomputable abbrev Sp:=List V->Hp->VK->XK->Prop
noncomputable abbrev CXT:=List Env->Hp->Shared->XK->Value->Shared->Prop
structure Env0 (P:Program) (w:World) (K:PySem.W.Frag) (mg:Str->Option Value) (base:Heap) (A:Around) (outer:List Env) (s:Shared) (H:Hp):Prop where
 frames:A.frames=some outer
 mod:Mod K mg base
 bs:∀ b o,base.get? b=some o->s.heap.get? b=some o/\H b=none
 bsz:base.objs.size<=s.heap.objs.size
 funs:s.heap.FunFrames base outer
 frf:∀ b∈frs outer,H b=none
 hok:HOk P w H s.heap
 bare:AllBare s.gens
noncomputable def CE (outer:List Env) (P:Program) (w:World) (H:Hp) (s:Shared) (Q:VK) (u:Value) (s':Shared):Prop :=
 ∃ v H',s'.os=s.os/\AllBare s'.gens/\Un (frs outer) [] H H' s.heap s'.heap/\HOk P w H' s'.heap/\RelV v u/\Q v H'
noncomputable def CR (CX:CXT) (outer:List Env) (P:Program) (w:World) (H:Hp) (s:Shared) (Q:VK) (E:XK) (r:Result) (s':Shared):Prop :=
 match r with
 | .ok (.ret u)=>CE outer P w H s Q u s'
 | .ok _=>False
 | .error e=>CX outer H s E e s'
structure FnOk (P:Program) (w:World) (K:PySem.W.Frag) (mg:Str->Option Value) (base:Heap) (CX:CXT) (k:Nat) (f:Addr) (fd:FuncData) (ps:List Str) (sp:Sp):Prop where
 len:∀ vs H Q E,sp vs H Q E->vs.length=ps.length
 run:∀ (A:Around) (outer:List Env) (s:Shared) (H:Hp) (args:Args) (us:List Value) (vs:List V) (Q:VK) (E:XK),Room k A->Env0 P w K mg base A outer s H->BindsTo s fd args (ps.zip us)->Vals vs us->sp vs H Q E ->
  codeAny (model P w) A (.call (.ref f) args) (CR CX outer P w H s Q E) s
theorem FnOk.mono {P:Program} {w:World} {K:PySem.W.Frag} {mg:Str->Option Value} {base:Heap} {CX:CXT} {j k:Nat} {f:Addr} {fd:FuncData} {ps:List Str} {sp:Sp} (F:FnOk P w K mg base CX j f fd ps sp) (h:j<=k) :
  FnOk P w K mg base CX k f fd ps sp:=⟨F.len,fun A outer s H args us vs Q E hr=>F.run A outer s H args us vs Q E (hr.mono h)⟩
theorem Env0.make {P:Program} {w:World} {K:PySem.W.Frag} {mg:Str->Option Value} {base:Heap} {A:Around} {outer:List Env} {s:Shared} {H:Hp} (e:Env0 P w K mg base A outer s H) (C:Addr) (us:List Value) (kw:List (Str × Value)) :
  Env0 P w K mg base (A.under (.builtin "type.__call__" ⟨.ref C::us,kw⟩)) outer s H:=⟨by first | exact e.frames | (simpa [Around.under,Code.envs,Code.isFrame,pushEnvs] using e.frames),e.mod,e.bs,e.bsz,e.funs,e.frf,e.hok,e.bare⟩
theorem Env0.in1 {P:Program} {w:World} {K:PySem.W.Frag} {mg:Str->Option Value} {base:Heap} {A:Around} {outer:List Env} {s:Shared} {H:Hp} (e:Env0 P w K mg base A outer s H) :
  Env0 P w K mg base A.in1 outer s H:=⟨e.frames,e.mod,e.bs,e.bsz,e.funs,e.frf,e.hok,e.bare⟩
section
variable {X:Cx} {pins:List (Addr × Obj)} {σ:St} {H:Hp} {s s':Shared}
theorem Inv.env0 (I:Inv X pins σ H s):Env0 X.prog X.w X.K X.mg X.base X.A X.stack s H :=
 ⟨I.ok.frames,I.ok.mod,I.bs,Nat.le_trans I.ok.bsz I.sz,I.stack,I.stkFree,I.hok,I.bare⟩
theorem Inv.after {Q:VK} {u:Value} (I:Inv X pins σ H s) (h:CE X.stack X.prog X.w H s Q u s'):EP X pins σ Q u s':=by
 obtain ⟨v,H',os,bare,un,hok,r,q⟩:=h
 obtain ⟨hh,g,d,t,os'⟩:=s'
 obtain rfl:os'=s.os:=os
 exact ⟨v,H',I.call (h':=hh) (g':=g) (d':=d) (t':=t) (ch:=[]) un hok bare (fun b z=>absurd z (by simp)),r,q⟩
end
noncomputable def ZkC (sp:Sp) (dvs:List V) (E:XK) (t:TA):TE:=fun σ H Q=>t σ H fun vs H1=>sp (vs++dvs) H1 Q E
noncomputable def Zkx (C:Addr) (m:Str) (sp:Sp) (dvs:List V) (E:XK) (ta:TE) (t:TA):TE:=fun σ H Q=>ta σ H fun x H1=>∃ a dx fs,x = .ref a/\H1 a=some (.ins C dx fs)/\fs.lookup m=none /\
 t σ H1 fun vs H2=>sp (x::(vs++dvs)) H2 Q E
noncomputable def Zky (C:Addr) (sp:Sp) (dvs:List V) (E:XK) (t:TA):TE:=fun σ H Q=>t σ H fun vs H1=>∀ x dx,H1 x=none->H1 dx=none->dx≠x ->
 sp (.ref x::(vs++dvs)) (upd (upd H1 dx (.own x)) x (.ins C dx [])) (fun v H2=>v = .non/\Q (.ref x) H2) E
noncomputable def Binds (K:PySem.W.Frag) (fd:FuncData) (ps:List Str) (ds:List Value):Prop :=
 ∀ (s:Shared) (us:List Value),K.In s.heap->(us++ds).length=ps.length->BindsTo s fd ⟨us,[]⟩ (ps.zip (us++ds))
theorem Binds.all {K:PySem.W.Frag} {fd:FuncData} {ps:List Str} (h:∀ us:List Value,us.length=ps.length->bindArgs fd ⟨us,[]⟩=pure (ps.zip us)):Binds K fd ps []:=fun s us _ hl=>by
 rw [List.append_nil] at hl ⊢
 exact .of_eq (h us hl)
noncomputable def Zam (CX:CXT) (X:Cx) (E:XK):Prop:=∀ (pins:List (Addr × Obj)) (σ:St) (H:Hp) (s:Shared) (e:Value) (s':Shared),Inv X pins σ H s->CX X.stack H s E e s'->X.xe e s'
section
variable {X:Cx} {CX:CXT} {k:Nat} {f C:Addr} {fd:FuncData} {ps:List Str} {sp:Sp} {dvs:List V} {ds:List Value} {E:XK} {x m:Str} {p pos apos:Pos} {e o:Expr} {es:List Expr} {ta:TE} {t:TA}
theorem Zhr {pins:List (Addr × Obj)} {σ:St} {H:Hp} {s:Shared} {Q:VK} {us:List Value} {vs:List V} (F:FnOk X.prog X.w X.K X.mg X.base CX k f fd ps sp) (hr:Room k X.A) (hb:Binds X.K fd ps ds) (hd:Vals dvs ds) (hx:Zam CX X E)
  (I:Inv X pins σ H s) (r:Vals vs us) (h:sp (vs++dvs) H Q E):wpAny (model X.prog X.w) X.A (call (.ref f) us) (EP X pins σ Q) X.xe s:=by
 have r2:Vals (vs++dvs) (us++ds):=r.append hd
 have hl:(us++ds).length=ps.length:=by rw [<- r2.length]; exact F.len _ _ _ _ h
 refine wpAny_call (codeAny_mono (F.run X.A X.stack s H ⟨us,[]⟩ (us++ds) (vs++dvs) Q E hr I.env0 (hb s us I.kIn hl) r2 h) fun r s' hq=>?_)
 cases r with
 | error e=>exact hx pins σ H s e s' I hq
 | ok fl =>
  cases fl with
  | ret u=>exact I.after hq
  | next=>exact False.elim hq
  | brk=>exact False.elim hq
  | cont=>exact False.elim hq
theorem Zk (F:FnOk X.prog X.w X.K X.mg X.base CX k f fd ps sp) (hr:Room k X.A) (hg:Gl X x) (hm:X.mg x=some (.ref f)) (hk:PySem.W.keepIn X.K (.ref f)=true) (hb:Binds X.K fd ps ds) (hd:Vals dvs ds) (hx:Zam CX X E)
  (ha:PA X (e::es) t) (hdb:(x==("__debug__" : Str))=false:=by decide) (he:starEach (e::es) X.env=(false,eval e X.env)::starEach es X.env:=by rfl) (hpl:(backTo pos (starEach es X.env)).any (·.1)=false:=by rfl) :
  PE X (.Call (.Name x p) (e::es) [] pos) (ZkC sp dvs E t):=by
 intro pins s σ H Q I h
 refine wpAny_Call_Name_kw (ZaR I hg hm ?_ hdb)
 refine PySem.W.callWith_K (h₀:=X.base) I.ok.mod.kin hk (thn (ha pos pins s σ H _ I h) fun us s1 ⟨vs,H1,I1,r,q⟩=>⟨I1.kIn,?_⟩) he hpl
 exact Zhr F hr hb hd hx I1 r q
theorem ZhD {pl:Sem Bool} (he:PE X o ta) (c:Cls X.K C) (hm:Zkl X.K C m f) (F:FnOk X.prog X.w X.K X.mg X.base CX k f fd ps sp) (hr:Room k X.A) (hb:Binds X.K fd ps ds) (hd:Vals dvs ds) (hx:Zam CX X E)
  (ht:eval (.Call (.Attribute o m apos) [] [] pos) X.env=(do
   let ov <- eval o X.env
   standAt apos.atName
   let (f,first) <- holding [ov] (getMethod ov m pl)
   callWith pos f first (backTo pos (starEach [] X.env)) (backToKw pos (keywordEach [] X.env))):=by rfl) :
  PE X (.Call (.Attribute o m apos) [] [] pos) (Zkx C m sp dvs E ta Zkv):=by
 intro pins s σ H Q I h
 refine PySem.W.methodCall_KW (pl:=pl) (thn (he pins s σ H _ I h) fun u s1 zz0=>?_) ht
 obtain ⟨x,H1,I1,rx,a,dx,fs,ex,ea,l,q⟩:=zz0
 subst ex
 obtain rfl:u=Value.ref a:=rx
 refine Zfk I1 ea c hm l ?_
 exact PySem.W.callWith_K0 (first:=[.ref a]) I1.kIn hm.kp (Zhr (us:=[.ref a]) (vs:=[.ref a]) F hr hb hd hx I1 (.cons rfl .nil) q)
structure Mk (K:PySem.W.Frag) (C f:Addr):Prop where
 makes:PySem.W.makesIn K C=true
 init:PySem.W.findIn K (.ref C) "__init__" = some (some (.ref f))
 fn:PySem.W.isFn K (.ref f)=true
 kp:PySem.W.keepIn K (.ref C)=true
theorem Zhq {pins:List (Addr × Obj)} {σ:St} {H:Hp} {s:Shared} {Q:VK} {us:List Value} {vs:List V} (M:Mk X.K C f) (F:FnOk X.prog X.w X.K X.mg X.base CX k f fd ps sp) (hr:Room (k+1) X.A) (hb:Binds X.K fd ps ds) (hd:Vals dvs ds)
  (hx:Zam CX X E) (I:Inv X pins σ H s) (r:Vals vs us)
  (h:∀ x dx,H x=none->H dx=none->dx≠x->sp (.ref x::(vs++dvs)) (upd (upd H dx (.own x)) x (.ins C dx [])) (fun v H2=>v = .non/\Q (.ref x) H2) E) :
  wpAny (model X.prog X.w) X.A (call (.ref C) us) (EP X pins σ Q) X.xe s:=by
 have hq:=h (s.heap.objs.size+1) s.heap.objs.size (I.hok.fresh (Nat.le_succ _)) (I.hok.fresh (Nat.le_refl _)) (Nat.ne_of_lt (Nat.lt_succ_self _))
 have I2:=Inv.made (C:=C) I
 have r2:Vals (V.ref (s.heap.objs.size+1)::(vs++dvs)) (Value.ref (s.heap.objs.size+1)::(us++ds)):=.cons rfl (r.append hd)
 have hl:(Value.ref (s.heap.objs.size+1)::us++ds).length=ps.length:=by
  have e:=r2.length
  rw [F.len _ _ _ _ hq] at e
  exact e.symm
 refine wpAny_call (ZhW (f:=f) I.kIn M.makes M.init (beq_iff_eq.mp M.fn) (codeAny_mono (F.run _ X.stack _ _ ⟨Value.ref (s.heap.objs.size+1)::us,[]⟩ (Value.ref (s.heap.objs.size+1)::(us++ds)) _ _ E (hr.make C us [])
  (I2.env0.make C us []) (hb _ (Value.ref (s.heap.objs.size+1)::us) I2.kIn hl) r2 hq) fun r s' hq'=>?_))
 cases r with
 | error e=>exact hx pins σ _ _ e s' I2 hq'
 | ok fl =>
  cases fl with
  | ret u =>
   obtain ⟨v,H',I3,rv,ev,q3⟩:=I2.after hq'
   subst ev
   exact ⟨rv,⟨V.ref (s.heap.objs.size+1),H',I3,rfl,q3⟩⟩
  | next=>exact False.elim hq'
  | brk=>exact False.elim hq'
  | cont=>exact False.elim hq'
theorem ZiO (M:Mk X.K C f) (F:FnOk X.prog X.w X.K X.mg X.base CX k f fd ps sp) (hr:Room (k+1) X.A) (hg:Gl X x) (hm:X.mg x=some (.ref C)) (hb:Binds X.K fd ps ds) (hd:Vals dvs ds) (hx:Zam CX X E)
  (ha:PA X (e::es) t) (hdb:(x==("__debug__" : Str))=false:=by decide) (he:starEach (e::es) X.env=(false,eval e X.env)::starEach es X.env:=by rfl) (hpl:(backTo pos (starEach es X.env)).any (·.1)=false:=by rfl) :
  PE X (.Call (.Name x p) (e::es) [] pos) (Zky C sp dvs E t):=by
 intro pins s σ H Q I h
 refine wpAny_Call_Name_kw (ZaR I hg hm ?_ hdb)
 refine PySem.W.callWith_K (h₀:=X.base) I.ok.mod.kin M.kp (thn (ha pos pins s σ H _ I h) fun us s1 ⟨vs,H1,I1,r,q⟩=>⟨I1.kIn,?_⟩) he hpl
 exact Zhq M F hr hb hd hx I1 r q
end
section
variable {X:Cx} {CX:CXT} {k:Nat} {f C:Addr} {fd:FuncData} {ps ks:List Str} {sp:Sp} {E:XK} {x m:Str} {p pos apos kpos:Pos} {e o:Expr} {es:List Expr} {kws:List Keyword} {te ta:TE} {t tk:TA} {nm:Option Str}
variable {g:List Value->List Value->List Value} {gV:List V->List V->List V}
end
structure Zt (N P:List Str) (sc:Scope):Prop where
 kind:sc.kind = .function
 co:sc.isCoroutine=false
 gen:sc.isGenerator=false
 nd:N.Nodup
 pre:N.take P.length=P
 par:∀ x∈P,sc.names.lookup x=some .local\/sc.names.lookup x=some .cell
 nofree:∀ y∈sc.names,y.2 ≠ .free
theorem Zc5 {kindOf:Str->Option NameKind} {x:Str}:∀ {binds:List (Str × Value)} {m:Str->Option Value},(∀ v,(x,v)∉binds)->bindL kindOf binds m x=m x
 | [],_,_=>rfl
 | (n,v)::r,m,h=>by
  unfold bindL
  rw [Zc5 fun w hw=>h w (List.mem_cons_of_mem _ hw)]
  split
  ·have:x≠n:=by rintro rfl; exact h v List.mem_cons_self
   simp [this]
  ·rfl
theorem Zc7 {kindOf:Str->Option NameKind} {x:Str}:∀ {binds:List (Str × Value)} {m:Str->Option Value},(∀ v,(x,v)∉binds)->bindC kindOf binds m x=m x
 | [],_,_=>rfl
 | (n,v)::r,m,h=>by
  unfold bindC
  rw [Zc7 fun w hw=>h w (List.mem_cons_of_mem _ hw)]
  split
  ·rfl
  ·have:x≠n:=by rintro rfl; exact h v List.mem_cons_self
   simp [this]
theorem Zc6 {kindOf:Str->Option NameKind} {x:Str} {v:Value}:∀ {P:List Str} {vs:List Value} {i:Nat} {m:Str->Option Value},P.Nodup->P[i]? = some x->vs[i]? = some v->kindOf x=some .local ->
  bindL kindOf (P.zip vs) m x=some v
 | [],_,_,_,_,h,_,_=>by simp at h
 | _::_,[],_,_,_,_,h,_=>by simp at h
 | p::P,w::vs,0,m,nd,h1,h2,hk=>by
  simp at h1 h2; subst h1; subst h2
  show bindL kindOf ((p,w)::P.zip vs) m p=_
  unfold bindL
  rw [Zc5 fun v hv=>(List.nodup_cons.mp nd).1 (List.of_mem_zip hv).1,if_pos hk]
  simp
 | p::P,w::vs,i+1,m,nd,h1,h2,hk=>by
  show bindL kindOf ((p,w)::P.zip vs) m x=_
  unfold bindL
  exact Zc6 (i:=i) (List.nodup_cons.mp nd).2 (by simpa using h1) (by simpa using h2) hk
theorem Zc8 {kindOf:Str->Option NameKind} {x:Str} {v:Value}:∀ {P:List Str} {vs:List Value} {i:Nat} {m:Str->Option Value},P.Nodup->P[i]? = some x->vs[i]? = some v->kindOf x≠some .local ->
  bindC kindOf (P.zip vs) m x=some v
 | [],_,_,_,_,h,_,_=>by simp at h
 | _::_,[],_,_,_,_,h,_=>by simp at h
 | p::P,w::vs,0,m,nd,h1,h2,hk=>by
  simp at h1 h2; subst h1; subst h2
  show bindC kindOf ((p,w)::P.zip vs) m p=_
  unfold bindC
  rw [Zc7 fun v hv=>(List.nodup_cons.mp nd).1 (List.of_mem_zip hv).1,if_neg hk]
  simp
 | p::P,w::vs,i+1,m,nd,h1,h2,hk=>by
  show bindC kindOf ((p,w)::P.zip vs) m x=_
  unfold bindC
  exact Zc8 (i:=i) (List.nodup_cons.mp nd).2 (by simpa using h1) (by simpa using h2) hk
noncomputable def start (N:List Str) (vs:List V):St:=vs.map some++List.replicate (N.length - vs.length) none
noncomputable def Z9 (CX:CXT) (P:Program) (w:World) (K:PySem.W.Frag) (mg:Str->Option Value) (base:Heap) (N:List Str) (qual:Str) (scope:Scope) (f:Addr) (cd:Value) (A:Around) (outer:List Env) (s:Shared) (H:Hp) (E:XK):Cx where
 prog:=P
 w:=w
 K:=K
 mg:=mg
 base:=base
 A:=A.deeper (envOfC qual scope s.heap.objs.size f cd)
 N:=N
 s₀:=s
 H₀:=H
 env:=envOfC qual scope s.heap.objs.size f cd
 outer:=outer
 stack:=envOfC qual scope s.heap.objs.size f cd::outer
 ex:=[]
 calm:=true
 fn:=fun _=>true
 pn:=[]
 xe:=fun e s'=>wpAny (model P w) (A.deeper (envOfC qual scope s.heap.objs.size f cd)) (leaving (envOfC qual scope s.heap.objs.size f cd) e) (fun _ s''=>CX outer H s E e s'') (fun e' s''=>CX outer H s E e' s'') s'
theorem Zeq {sc:Scope} {n:Nat} {x:Str} (h:sc.names.lookup x=some .cell):∃ c,(cellsFrom n sc.names []).lookup x=some c:=by
 have q:=PySem.W.cellsFrom_some sc.names n [] (.inl h)
 exact Option.isSome_iff_exists.mp q
theorem Zc0 {CX:CXT} {P:Program} {w:World} {K:PySem.W.Frag} {mg:Str->Option Value} {base:Heap} {N ps:List Str} {qual:Str} {scope:Scope} {f:Addr} {cd:Value} {A:Around} {outer:List Env} {s s1:Shared} {H:Hp} {E:XK} {us:List Value} {vs:List V}
  (S:Zt N ps scope) (hd:A.handled=none) (e0:Env0 P w K mg base A outer s H) (hl:vs.length=ps.length) (r:Vals vs us)
  (x:InCallC s s.heap.objs.size (bindL (envOfC qual scope s.heap.objs.size f cd).kindOf (ps.zip us) fun _=>none) (cellsFrom (s.heap.objs.size+1) scope.names []) (bindC (envOfC qual scope s.heap.objs.size f cd).kindOf (ps.zip us) fun _=>none) s1) :
  Inv (Z9 CX P w K mg base N qual scope f cd A outer s H E) [] (start N vs) H s1:=by
 have hpl:ps.length<=N.length:=by have:=congrArg List.length S.pre; rw [List.length_take] at this; omega
 obtain ⟨h1,tk,rfl,hk⟩:=x.done
 have noA:∀ b:Addr,b∉(Z9 CX P w K mg base N qual scope f cd A outer s H E).ex:=fun b z=>absurd (show b∈([]:List Addr) from z) (by simp)
 refine ⟨⟨e0.mod,S.kind,rfl,rfl,Nat.le_refl _,fun y z c h1 h2=>?_,fun y hy=>?_,fun y c _ h=>?_,fun _=>hd,Around.frames_deeper e0.frames,.inr ⟨rfl,rfl⟩,fun b z=>absurd z (noA b),e0.bs,e0.bsz,fun b _ _=>noA b,fun b z=>absurd z (noA b),e0.funs,e0.frf⟩,
  rfl,e0.bare,Un.kept hk,⟨_,x.toInCall.ns,fun i y v h1 h2 h3=>?_⟩,fun y c h=>⟨_,x.cell y c h⟩,e0.hok.fresh (Nat.le_refl _),fun y c h=>?_,fun p hp=>absurd (show p∈([]:List (Addr × Obj)) from hp) (by simp),e0.hok.kept hk,?_⟩
 ·exact name_of_addr x.apart (PySem.mem_of_lookup h1) (PySem.mem_of_lookup h2)
 ·have hy:scope.names.lookup y=some .cell\/scope.names.lookup y=some .free:=hy
  rcases hy with hy | hy
  ·exact Zeq hy
  ·exact absurd rfl (S.nofree _ (PySem.mem_of_lookup hy))
 ·exact Nat.le_of_lt (x.above y c (PySem.mem_of_lookup h))
 ·have hi:i<vs.length:=by
   unfold start at h2
   by_cases hi:i<vs.length
   ·exact hi
   ·rw [List.getElem?_append_right (by simpa using hi)] at h2
    rw [List.getElem?_replicate] at h2
    split at h2 <;> cases h2
  have ha:vs[i]? = some v:=by
   unfold start at h2
   rw [List.getElem?_append_left (by simpa using hi),List.getElem?_map] at h2
   cases e:vs[i]? with
   | none=>rw [e] at h2; cases h2
   | some a=>rw [e] at h2; cases h2; rfl
  obtain ⟨u,hu,rv⟩:=r.get ha
  have hp:ps[i]? = some y:=by
   rw [<- S.pre,List.getElem?_take_of_lt (by exact Om.a2 ‹_› ‹_›)]; exact h1
  have ndP:ps.Nodup:=by rw [<- S.pre]; exact S.nd.sublist (List.take_sublist _ _)
  refine ⟨u,rv,?_⟩
  rcases S.par y (List.mem_of_getElem? hp) with k | k
  ·exact .inl ⟨k,Zc6 ndP hp hu k⟩
  ·obtain ⟨c,e⟩:=Zeq (n:=s.heap.objs.size+1) k
   refine .inr ⟨.inl k,c,e,?_⟩
   have q:=x.cell y c e
   rw [Zc8 ndP hp hu (by show scope.names.lookup y≠_; rw [k]; decide)] at q
   exact q
 ·exact e0.hok.fresh (Nat.le_of_lt (x.above y c (PySem.mem_of_lookup h)))
 ·unfold start
  show _=N.length
  rw [List.length_append,List.length_map,List.length_replicate]
  exact Om.k221 hl hpl
theorem ZfV {CX:CXT} {P:Program} {w:World} {K:PySem.W.Frag} {mg:Str->Option Value} {base:Heap} {k:Nat} {f:Addr} {name qual:Str} {params:Arguments} {body:List Stmt} {scope:Scope} {dV kV doc pm cdv ct oc:Value} {an od:Option Addr}
  {osl:Array (Option Value)} {N ps:List Str} {sp:Sp} (lk:K.lookup f=some ⟨oc,od,.func (PySem.W.fnOf name qual params body scope dV kV doc pm an cdv ct),osl⟩) (hcd:PySem.W.codeIn K cdv qual=true) (S:Zt N ps scope)
  (len:∀ vs H Q E,sp vs H Q E->vs.length=ps.length)
  (hbody:∀ (A:Around) (outer:List Env) (s:Shared) (H:Hp) (vs:List V) (Q:VK) (E:XK),Room k (A.deeper (envOfC qual scope s.heap.objs.size f cdv))->sp vs H Q E ->
   ∃ t,PSs (Z9 CX P w K mg base N qual scope f cdv A outer s H E) body t/\t { nx:=fun _ H'=>Q .non H',rt:=Q } (start N vs) H) :
  FnOk P w K mg base CX (k+1) f (PySem.W.fnOf name qual params body scope dV kV doc pm an cdv ct) ps sp:=by
 refine ⟨len,fun A outer s H args us vs Q E hr e0 hb r hsp=>?_⟩
 have hl:=len _ _ _ _ hsp
 have KX:K.In s.heap:=e0.mod.kin.keeps fun b o e=>(e0.bs b o e).1
 have lim:s.heap.NoLimit:=e0.mod.nolimit.keeps fun b o e=>(e0.bs b o e).1
 have hkind:∀ y∈ps.zip us,scope.names.lookup y.1=some .local\/(scope.names.lookup y.1=some .cell/\((cellsFrom (s.heap.objs.size+1) scope.names []).lookup y.1).isSome=true):=fun ⟨n,v⟩ hy=>by
  rcases S.par n (List.of_mem_zip hy).1 with q | q
  ·exact .inl q
  ·exact .inr ⟨q,PySem.W.cellsFrom_some _ _ _ (.inl q)⟩
 refine codeAny_call_function hr.depth (KX _ _ lk) rfl S.co S.gen rfl (PySem.W.codeRec_of KX hcd) (hb _ _ _ _ ?_)
 refine wpAny_newFunctionEnv_cells S.kind hkind fun env he s1 x=>?_
 subst he
 refine ⟨lim.keeps x.toInCall.keep,codeAny_func ?_⟩
 obtain ⟨t,ht,hq⟩:=hbody A outer s H vs Q E (hr.deeper _) hsp
 have I:Inv (Z9 CX P w K mg base N qual scope f cdv A outer s H E) [] (start N vs) H s1:=Zc0 S hr.hd e0 hl r x
 refine wpAny_mono (ht [] s1 (start N vs) H _ I hq) (fun fl s' hs=>?_) fun e s' hs=>hs
 have fin:∀ {σ':St} {H':Hp} {v:V} {u:Value},Inv (Z9 CX P w K mg base N qual scope f cdv A outer s H E) [] σ' H' s'->RelV v u->Q v H'->CE outer P w H s Q u s' :=
  fun {σ' H' v u} J rv q=>⟨v,H',J.os,J.bare,J.base,J.hok,rv,q⟩
 cases fl with
 | ret u =>
  obtain ⟨v,σ',H',J,rv,q⟩:=hs
  exact fin J rv q
 | next =>
  obtain ⟨σ',H',J,q⟩:=hs
  exact fin (v:=V.non) (u:=Value.none) J rfl q
 | brk =>
  obtain ⟨_,_,_,q⟩:=hs
  exact False.elim q
 | cont =>
  obtain ⟨_,_,_,q⟩:=hs
  exact False.elim q
end L2
namespace L2
open PySem PySem.Spec PyProof.Rows
section
variable {X:Cx} {x:Str} {p pos:Pos} {e:Expr} {es:List Expr} {t:TA} {id T:String} {r:List V->Hp->VK->Prop}
noncomputable def tCB (r:List V->Hp->VK->Prop) (t:TA):TE:=fun σ H Q=>t σ H fun vs H1=>r vs H1 Q
theorem Zw (hc:JV X (.builtin id) r) (hg:Gl X x) (hm:X.mg x=none) (hv:bootBuiltins x=some (.builtin id)) (ha:PA X (e::es) t) (hn:x ≠ "__name__":=by decide) (hdb:(x==("__debug__" : Str))=false:=by decide)
  (he:starEach (e::es) X.env=(false,eval e X.env)::starEach es X.env:=by rfl) (hpl:(backTo pos (starEach es X.env)).any (·.1)=false:=by rfl):PE X (.Call (.Name x p) (e::es) [] pos) (tCB r t):=by
 intro pins s σ H Q I h
 refine wpAny_Call_Name_kw (ZdC I hg hm hv ?_ hn hdb)
 exact PyProof.Rows.callWith_builtin1 (thn (ha pos pins s σ H _ I h) fun us s1 zz0=> by obtain ⟨vs,H1,I1,r1,q1⟩ := zz0; exact hc pins s1 σ H1 vs us Q I1 r1 q1) he hpl
theorem JB (hc:JV X (.type T) r) (hg:Gl X x) (hm:X.mg x=none) (hv:bootBuiltins x=some (.type T)) (ha:PA X (e::es) t) (hn:x ≠ "__name__":=by decide) (hdb:(x==("__debug__" : Str))=false:=by decide)
  (he:starEach (e::es) X.env=(false,eval e X.env)::starEach es X.env:=by rfl) (hpl:(backTo pos (starEach es X.env)).any (·.1)=false:=by rfl):PE X (.Call (.Name x p) (e::es) [] pos) (tCB r t):=by
 intro pins s σ H Q I h
 refine wpAny_Call_Name_kw (ZdC I hg hm hv ?_ hn hdb)
 exact PyProof.Rows.callWith_type1 (thn (ha pos pins s σ H _ I h) fun us s1 zz0=> by obtain ⟨vs,H1,I1,r1,q1⟩ := zz0; exact hc pins s1 σ H1 vs us Q I1 r1 q1) he hpl
end
end L2
namespace HT
open PySem PyProof.Rows
theorem rcLt_int (A:Around) (s:Shared) (a:Int) (t:Tok) (c:Int) (u:Tok) (prog:Program) (w:World) (E:Value->Shared->Prop) (Q:Value->Shared->Prop) (h:Q (.bool (decide (a<c))) s) :
  wpAny (model prog w) A (richCompare .Lt (.int a t) (.int c u)) Q E s :=
 (PyProof.Rows.lt_int h:wpAny (model prog w) A (compareOp .Lt (.int a t) (.int c u)) Q E s)
section
open PySem.SeqAt
open PySem.AutoSeq1 (wpAny_loadPart')
open PySem.MeetsSeq PySem.MeetsSeq2 PySem.MeetsSeq3
end
section
variable {prog:Program} {w:World} {A:Around} {E:Value->Shared->Prop} {s:Shared}
theorem cat_tup {t b:Addr} {vs ws:List Value} {Q:Value->Shared->Prop} (ht:IsTup s.heap t vs.toArray) (hb:IsTup s.heap b ws.toArray) (hv:vs≠[])
  (h1:ws=[]->Q (.ref t) s) (h2:ws≠[]->Q (.ref s.heap.objs.size) { s with heap:=s.heap.push { cls:=.type "tuple",data:=.seq (vs++ws).toArray } })
  (hsz:vs.length+ws.length<=sizeLine):wpAny (model prog w) A (binaryOp .Add (.ref t) (.ref b)) Q E s:=by
 obtain ⟨⟨cls,dd,data,sl⟩,ho,hc,n,hd⟩:=id ht
 obtain ⟨⟨cls2,dd2,data2,sl2⟩,ho2,hc2,n2,hd2⟩:=id hb
 simp only at hc hd hc2 hd2
 subst hc hd hc2 hd2
 have e:vs.toArray++ws.toArray=(vs++ws).toArray:=by simp
 by_cases hw:ws=[]
 ·exact concat_meets ⟨_,ho,rfl⟩ ⟨_,ho2,rfl⟩ noFill_tuple_add seq_tuple_add PySem.F.slot_tuple_add PySem.F.entry_tuple_add (PySem.F.args_tuple_add_2 _ _)
   (tuple_addW1 t b vs.toArray ws.toArray n n2 dd dd2 sl sl2 (by simpa using hv) (by simp [hw])) ⟨ho,ho2,h1 hw⟩
 ·refine concat_meets ⟨_,ho,rfl⟩ ⟨_,ho2,rfl⟩ noFill_tuple_add seq_tuple_add PySem.F.slot_tuple_add PySem.F.entry_tuple_add (PySem.F.args_tuple_add_2 _ _)
   (tuple_addW2 t b vs.toArray ws.toArray n n2 dd dd2 sl sl2 (by simpa using hv) (by simpa using hw) (by rw [List.size_toArray,List.size_toArray]; exact hsz)) ⟨ho,ho2,?_⟩
  rw [e]
  exact h2 hw
noncomputable def sIx (n d:Nat):Option Int->Nat
 | none=>d
 | some v=>if v<0 then (v+(n:Int)).toNat else min v.toNat n
theorem sIx_none (n d:Nat):sIx n d none=d:=rfl
theorem sIx_nat (n d k:Nat):sIx n d (some (k:Int))=min k n:=by
 show (if (k:Int)<0 then ((k:Int)+(n:Int)).toNat else min (k:Int).toNat n)=min k n
 rw [if_neg (by exact Om.k95 ),Int.toNat_natCast]
theorem ZjQ (n d:Nat) (hd:d<=n) (o:Option Int):sIx n d o<=n:=by
 cases o with
 | none=>exact hd
 | some v =>
  show (if v<0 then (v+(n:Int)).toNat else min v.toNat n)<=n
  by_cases hv:v<0
  ·rw [if_pos hv]; exact Om.k220 hd hv
  ·rw [if_neg hv]; exact Nat.min_le_right _ _
theorem Zf8 (v:Int) (n d:Nat):(if v<0 then max (v+(n:Int)) 0 else min v (n:Int))=((sIx n d (some v):Nat):Int):=by
 show (if v<0 then max (v+(n:Int)) 0 else min v (n:Int))=(((if v<0 then (v+(n:Int)).toNat else min v.toNat n):Nat):Int)
 by_cases hv:v<0
 ·simp only [if_pos hv]; exact Om.k219 
 ·simp only [if_neg hv]; exact Om.k218 hv
theorem Zfw (lo hi:Option Int) (n:Nat):Builtin.Slice.sliceAdjust lo hi 1 (n:Int)=(((sIx n 0 lo:Nat):Int),((sIx n n hi:Nat):Int)):=by
 have h1:¬ ((1:Int)<0):=by exact Om.k217 
 unfold Builtin.Slice.sliceAdjust
 simp only [h1,if_false]
 refine Prod.ext ?_ ?_
 ·cases lo with
  | none=>rfl
  | some v=>exact Zf8 v n 0
 ·cases hi with
  | none=>rfl
  | some v=>exact Zf8 v n n
theorem Zfa (i j:Nat):Builtin.Slice.slicePlaces (i:Int) (j:Int) 1=j - i:=by
 unfold Builtin.Slice.slicePlaces
 have h1:(1:Int)>0:=by exact Om.k216 
 simp only [h1,if_true,Int.ediv_one]
 split <;> omega
theorem ZbY {v:Value} {o:Option Int} {Q:Option Int->Shared->Prop} (p:IsPart v o) (h:Q o s):wpAny (model prog w) A (Builtin.Slice.slicePartIndex v) Q E s:=by
 cases p with
 | none=>exact slicePart_none h
 | int i t=>exact slicePart_int h
theorem Za8 {sl:Addr} {vl vu:Value} {lo hi:Option Int} {n:Nat} {Q:Int × Int × Nat->Shared->Prop} (hs:s.heap.IsSliceOf sl vl vu .none) (pl:IsPart vl lo) (pu:IsPart vu hi)
  (h:Q (((sIx n 0 lo:Nat):Int),1,sIx n n hi - sIx n 0 lo) s):wpAny (model prog w) A (Builtin.Slice.sliceApplied (.ref sl) (pure (n:Int))) Q E s:=by
 obtain ⟨os,hos,hcs,hds⟩:=id hs
 unfold Builtin.Slice.sliceApplied Builtin.Slice.sliceFields
 refine wpAny_bind (wpAny_bind (wpAny_field hos hds (x:=vl) rfl (wpAny_bind (wpAny_field hos hds (x:=vu) rfl (wpAny_bind (wpAny_field hos hds (x:=.none) rfl (wpAny_pure ?_)))))))
 refine wpAny_bind (slicePart_none ?_)
 show wpAny _ _ (if ((1:Int)==0)=true then _ else _) _ _ s
 rw [if_neg (by decide)]
 refine wpAny_bind (ZbY pl (wpAny_bind (ZbY pu (wpAny_bind (wpAny_pure ?_)))))
 show wpAny _ _ (match Builtin.Slice.sliceAdjust lo hi 1 (n:Int) with | (lo,hi)=>pure (lo,(1:Int),Builtin.Slice.slicePlaces lo hi 1)) _ _ s
 rw [Zfw lo hi n]
 show wpAny _ _ (pure (((sIx n 0 lo:Nat):Int),(1:Int),Builtin.Slice.slicePlaces ((sIx n 0 lo:Nat):Int) ((sIx n n hi:Nat):Int) 1)) _ _ s
 rw [Zfa]
 exact wpAny_pure h
theorem Zhz (xs:Array Value) (i k:Nat):((List.range k).filterMap fun (m:Nat)=>xs[((i:Int)+(m:Int)*1).toNat]?).toArray=((xs.toList.drop i).take k).toArray:=by
 have e:(fun (m:Nat)=>xs[((i:Int)+(m:Int)*1).toNat]?)=fun m=>xs[i+m]?:=by
  funext m
  have:((i:Int)+(m:Int)*1).toNat=i+m:=by exact Om.k215 
  rw [this]
 rw [e]
 have:=pick_run xs i k
 rw [List.filterMap_map] at this
 have e2:((fun x=>xs[x]?) ∘ fun x=>i+x)=fun m=>xs[i+m]?:=rfl
 rw [e2] at this
 rw [this]
theorem getItem_tuple_cut {t sl:Addr} {items:Array Value} {vl vu:Value} {lo hi:Option Int} {Q:Value->Shared->Prop} (ht:IsTup s.heap t items) (hs:s.heap.IsSliceOf sl vl vu .none) (pl:IsPart vl lo) (pu:IsPart vu hi)
  (hw:¬ (sIx items.size 0 lo=0/\sIx items.size items.size hi=items.size))
  (h:Q (.ref s.heap.objs.size) { s with heap:=s.heap.push { cls:=.type "tuple",data:=.seq ((items.toList.drop (sIx items.size 0 lo)).take (sIx items.size items.size hi - sIx items.size 0 lo)).toArray } })
  (hsz:items.size<=sizeLine):wpAny (model prog w) A (getItem (.ref t) (.ref sl)) Q E s:=by
 have htake:sizeOk (.seq ((items.toList.drop (sIx items.size 0 lo)).take (sIx items.size items.size hi - sIx items.size 0 lo)).toArray):=by
  show ((items.toList.drop (sIx items.size 0 lo)).take (sIx items.size items.size hi - sIx items.size 0 lo)).toArray.size<=sizeLine
  rw [List.size_toArray,List.length_take,List.length_drop,Array.length_toList]
  exact Om.k214 hsz
 have hj:sIx items.size items.size hi<=items.size:=ZjQ _ _ (Nat.le_refl _) hi
 obtain ⟨os,hos,hcs,hds⟩:=id hs
 have hTs:s.TypeIs (.ref sl) "slice":=⟨os,hos,hcs⟩
 unfold getItem
 try with_reducible refine wpAny_holding ?_
 first | refine wpAny_bind (wpAny_pure ?_) | skip
 refine wpAny_bind (wpAny_sequenceKey ht.typeIs (by decide) ?_)
 refine wpAny_bind (wpAny_callSpecial?_slot (name:=Str.ofString "__getitem__") ht.typeIs PyProof.Rows.slot_tuple_getitem
  (wpAny_call_entry PyProof.Rows.slot_tuple_getitem ht.typeIs entry_tuple_getitem ?_ (args_tuple_getitem _ _)))
 show wpAny _ _ (Builtin.Tuple.tupleItemsOf (.ref t) >>= _) _ _ s
 refine wpAny_bind (tupleItemsOf_ ht ?_)
 refine wpAny_bind (wpAny_typeOf hTs ?_)
 rw [if_pos (by decide)]
 refine wpAny_bind (Za8 hs pl pu ?_)
 have hno:¬ ((((sIx items.size 0 lo:Nat):Int)==0&&(1:Int)==1&&(sIx items.size items.size hi - sIx items.size 0 lo)==items.size)=true):=by
  intro q
  rw [Bool.and_eq_true,Bool.and_eq_true] at q
  have q1:((sIx items.size 0 lo:Nat):Int)=0:=eq_of_beq q.1.1
  have q2:sIx items.size items.size hi - sIx items.size 0 lo=items.size:=eq_of_beq q.2
  exact hw ⟨by exact Om.k213 q1,by exact Om.k212 hj q1 q2⟩
 show wpAny _ _ (if (((sIx items.size 0 lo:Nat):Int)==0&&(1:Int)==1&&(sIx items.size items.size hi - sIx items.size 0 lo)==items.size)=true then _ else _) _ _ s
 rw [if_neg hno,Zhz]
 first
  | exact wpAny_bind (m:=Builtin.Tuple.tupleExact _) (wpAny_newObj_type (wpAny_pure ⟨_,rfl,wpAny_pure h⟩) htake)
  | exact wpAny_bind (m:=Builtin.Tuple.tupleExact _) (wpAny_newObj_type (wpAny_bind (wpAny_pure (wpAny_pure ⟨_,rfl,wpAny_pure h⟩))) htake)
  | exact wpAny_bind (wpAny_bind (m:=Builtin.Tuple.tupleExact _) (wpAny_newObj_type (wpAny_pure (wpAny_pure ⟨_,rfl,wpAny_pure h⟩)) htake))
  | exact wpAny_bind (wpAny_bind (m:=Builtin.Tuple.tupleExact _) (wpAny_newObj_type (wpAny_pure ⟨_,rfl,wpAny_pure h⟩) htake))
end
end HT
namespace L2
open PySem PySem.Spec PyProof.Rows
noncomputable abbrev TO:=St->Hp->(Option Int->Hp->Prop)->Prop
noncomputable def PO (X:Cx) (e:Option Expr) (t:TO):Prop :=
 ∀ (pins:List (Addr × Obj)) (s:Shared) (σ:St) (H:Hp) (Q:Option Int->Hp->Prop),Inv X pins σ H s->t σ H Q ->
  wpAny (model X.prog X.w) X.A (evalPart e X.env) (fun u s'=>∃ o H',Inv X pins σ H' s'/\IsPart u o/\Q o H') X.xe s
noncomputable def Ziy:TO:=fun _ H Q=>Q none H
noncomputable def Zks (t:TE):TO:=fun σ H Q=>t σ H fun x H1=>∃ i,x = .int i/\Q (some i) H1
theorem Zcf {ns:List Int}:∀ {us:List Value},Vals (ns.map V.int) us->IntsAre us ns:=by
 induction ns with
 | nil=>intro us r; rw [List.map_nil] at r; cases r; exact .nil
 | cons n ns ih =>
  intro us r
  rw [List.map_cons] at r
  cases r with
  | cons r1 r2 =>
   obtain ⟨t,e⟩:=r1
   subst e
   exact .cons n t (ih r2)
section
variable {X:Cx} {e:Expr} {te:TE} {lo hi:Option Expr} {tl th:TO} {pos p2:Pos}
theorem YU:PO X none Ziy:=by
 intro pins s σ H Q I h
 rw [evalPart_none]
 exact wpAny_pure ⟨none,H,I,.none,h⟩
theorem Yy (h:PE X e te):PO X (some e) (Zks te):=by
 intro pins s σ H Q I hw
 rw [evalPart_some]
 refine thn (h pins s σ H _ I hw) fun u s1 zz0=>?_
 obtain ⟨x,H1,I1,r1,q1⟩:=zz0
 obtain ⟨i,rfl,q⟩:=q1
 obtain ⟨t,rfl⟩:=r1
 exact ⟨some i,H1,I1,.int i t,q⟩
noncomputable def SlR (X:Cx) (r:V->Option Int->Option Int->Hp->VK->Prop):Prop :=
 ∀ (pins:List (Addr × Obj)) (s:Shared) (σ:St) (H:Hp) (x:V) (v vl vu:Value) (lo hi:Option Int) (sl:Addr) (Q:VK),Inv X pins σ H s->RelV x v->s.heap.IsSliceOf sl vl vu .none->IsPart vl lo->IsPart vu hi->r x lo hi H Q ->
  ∃ T id,typeLookup (.type T) "__getitem__" = pure (some (.builtin id))/\s.TypeIs v T/\wpAny (model X.prog X.w) X.A (getItem v (.ref sl)) (EP X pins σ Q) X.xe s
noncomputable def tSl (r:V->Option Int->Option Int->Hp->VK->Prop) (te:TE) (tl th:TO):TE:=fun σ H Q=>te σ H fun x H1=>tl σ H1 fun l H2=>th σ H2 fun u H3=>r x l u H3 Q
theorem Yn {r:V->Option Int->Option Int->Hp->VK->Prop} (hr:SlR X r) (he:PE X e te) (hl:PO X lo tl) (hu:PO X hi th):PE X (.Subscript e (.Slice lo hi none p2) pos) (tSl r te tl th):=by
 intro pins s σ H Q I h
 refine Subscript_ (thn (he pins s σ H _ I h) fun v s1 zz0=>?_)
 obtain ⟨x,H1,I1,r1,q1⟩:=zz0
 refine wpAny_Slice (thn (hl pins s1 σ H1 _ I1 q1) fun vl s2 ⟨l,H2,I2,pl,q2⟩=>thn (hu pins s2 σ H2 _ I2 q2) fun vu s3 zz0=>?_)
 obtain ⟨u,H3,I3,pu,q3⟩:=zz0
 rw [evalPart_none]
 refine wpAny_pure ?_
 have I4:Inv X pins σ H3 { s3 with heap:=s3.heap.push { cls:=.type "slice",data:=.fields #[vl,vu,.none] } }:=I3.kept (t':=s3.toks) fun b ob q=>Heap.get?_push_of_some _ q
 obtain ⟨T,id,hT,ht,hg⟩:=hr pins { s3 with heap:=s3.heap.push { cls:=.type "slice",data:=.fields #[vl,vu,.none] } } σ H3 x v vl vu l u s3.heap.objs.size Q I4 r1 (Heap.IsSliceOf.new ..) pl pu q3
 show wpAny (model X.prog X.w) X.A (subscriptTail e (.Slice lo hi none p2) v (.ref s3.heap.objs.size)) (EP X pins σ Q) X.xe { s3 with heap:=s3.heap.push { cls:=.type "slice",data:=.fields #[vl,vu,.none] } }
 exact tail_any (ops:=[.ref s3.heap.objs.size,v]) ht hT hg (by with_unfolding_all rfl)
noncomputable def Zal (xs:List V) (lo hi:Option Int):List V:=(xs.drop (HT.sIx xs.length 0 lo)).take (HT.sIx xs.length xs.length hi - HT.sIx xs.length 0 lo)
theorem Zby (xs:List V) (lo hi:Option Int):(Zal xs lo hi).length<=xs.length:=by
 unfold Zal
 rw [List.length_take,List.length_drop]
 exact Om.k211 
noncomputable def Zlh (K:PySem.W.Frag):V->Option Int->Option Int->Hp->VK->Prop:=fun x lo hi H Q=>∃ a xs,x = .ref a/\SqT K H a xs /\
 ¬ (HT.sIx xs.length 0 lo=0/\HT.sIx xs.length xs.length hi=xs.length)/\∀ p,H p=none->Q (.ref p) (upd H p (.tup (Zal xs lo hi)))
theorem J0:SlR X (Zlh X.K):=by
 intro pins s σ H x v vl vu lo hi sl Q I rx hs pl pu h
 obtain ⟨a,xs,rfl,hx,hw,q⟩:=h
 cases rx
 obtain ⟨its,r,ht,hz⟩:=I.tuple hx
 have hlen:its.toArray.size=xs.length:=by rw [List.size_toArray]; exact r.length.symm
 refine ⟨"tuple",_,PyProof.Rows.slot_tuple_getitem.lookup,ht.typeIs,?_⟩
 refine HT.getItem_tuple_cut ht hs pl pu (by rw [hlen]; exact hw) ?_ (by rw [hlen]; exact hz)
 rw [hlen]
 refine ⟨.ref s.heap.objs.size,_,I.laid (t':=s.toks) (o:=.tup (Zal xs lo hi)) (fun b ob q=>Heap.get?_push_of_some _ q) (Nat.le_refl _) ?_,rfl,q _ (I.hok.fresh (Nat.le_refl _))⟩
 exact ⟨Nat.le_trans (Zby xs lo hi) hz,_,(r.drop (HT.sIx xs.length 0 lo)).take (HT.sIx xs.length xs.length hi - HT.sIx xs.length 0 lo),IsTupN.new _ _⟩
noncomputable def ZkM (K:PySem.W.Frag):R2:=fun x y H Q=>∃ a b xs ys,x = .ref a/\y = .ref b/\SqT K H a xs/\SqT K H b ys/\xs≠[]/\xs.length+ys.length<=sizeLine /\
 (ys=[]->Q (.ref a) H)/\(ys≠[]->∀ p,H p=none->Q (.ref p) (upd H p (.tup (xs++ys))))
theorem Vals.nil_iff {xs:List V} {us:List Value} (r:Vals xs us):us=[]↔xs=[]:=by
 cases r with
 | nil=>simp
 | cons _ _=>simp
theorem ZiQ:OpR X (binaryOp .Add) (ZkM X.K):=by
 intro pins s σ H x y v u Q I rx ry h
 obtain ⟨a,b,xs,ys,rfl,rfl,ha,hb,hx,hz,q1,q2⟩:=h
 cases rx
 cases ry
 obtain ⟨its,r1,p1,_⟩:=I.tuple ha
 obtain ⟨its2,r2,p2,_⟩:=I.tuple hb
 refine HT.cat_tup p1 p2 (fun z=>hx (r1.nil_iff.mp z)) (fun z=>⟨.ref a,H,I,rfl,q1 (r2.nil_iff.mp z)⟩) (fun z=>?_) (by rw [<- r1.length,<- r2.length]; exact hz)
 refine ⟨.ref s.heap.objs.size,_,I.laid (t':=s.toks) (o:=.tup (xs++ys)) (fun b ob q=>Heap.get?_push_of_some _ q) (Nat.le_refl _) ?_,rfl,q2 (fun w=>z (r2.nil_iff.mpr w)) _ (I.hok.fresh (Nat.le_refl _))⟩
 exact ⟨by rw [List.length_append]; exact hz,_,r1.append r2,IsTupN.new _ _⟩
end
end L2
namespace L2
open PySem PySem.Spec PyProof.Rows
noncomputable def ixN (n:Nat) (i:Int):Option Nat:=if 0<=i then (if i<n then some i.toNat else none) else if -(n:Int)<=i then some (i+n).toNat else none
noncomputable def atI {α:Type} (xs:List α) (i:Int):Option α:=(ixN xs.length i).bind fun j=>xs[j]?
theorem Zi8 {n:Nat} {i:Int} {j:Nat} (h:ixN n i=some j):seqIndex? i n=some j/\j<n /\ -(n:Int)<=i/\i<n:=by
 unfold ixN at h
 by_cases h0:0<=i
 ·rw [if_pos h0] at h
  by_cases h1:i<n
  ·rw [if_pos h1] at h
   have e:i.toNat=j:=Option.some.inj h
   exact ⟨by rw [seqIndex_of h0 h1,e],by exact Om.k210 h0 h1 e,by exact Om.k209 h0,h1⟩
  ·rw [if_neg h1] at h; cases h
 ·rw [if_neg h0] at h
  by_cases h1 : -(n:Int)<=i
  ·rw [if_pos h1] at h
   have e:(i+n).toNat=j:=Option.some.inj h
   exact ⟨by rw [seqIndex_neg (by exact Om.k205 h0) h1,e],by exact Om.k208 h0 h1 e,h1,by exact Om.k207 h0 h1⟩
  ·rw [if_neg h1] at h; cases h
theorem Zga {α:Type} {xs:List α} {i:Int} {v:α} (h:atI xs i=some v):∃ j,seqIndex? i xs.length=some j/\xs[j]? = some v/\j<xs.length /\ -(xs.length:Int)<=i/\i<xs.length:=by
 unfold atI at h
 cases e:ixN xs.length i with
 | none=>rw [e] at h; cases h
 | some j =>
  rw [e] at h
  obtain ⟨h1,h2,h3,h4⟩:=Zi8 e
  exact ⟨j,h1,h,h2,h3,h4⟩
theorem Zjp {α:Type} {xs:List α} {j:Nat} {v:α} (h:xs[j]? = some v):atI xs (j:Int)=some v:=by
 have hj:j<xs.length:=(List.getElem?_eq_some_iff.mp h).1
 have e:ixN xs.length (j:Int)=some j:=by
  unfold ixN
  rw [if_pos (by exact Om.c6),if_pos (by exact Om.c5 ‹_›)]; simp
 unfold atI; rw [e]; exact h
noncomputable def Zjq (b:Expr):Prop:=∀ o i,subscripted b false o i=operate [o,i] (getItem o i)
noncomputable def IxR (X:Cx) (r:R2):Prop :=
 ∀ (value slice:Expr) (pins:List (Addr × Obj)) (s:Shared) (σ:St) (H:Hp) (x y:V) (v u:Value) (Q:VK),Inv X pins σ H s->RelV x v->RelV y u->r x y H Q ->
  subscripted slice false v u=operate [v,u] (getItem v u)->wpAny (model X.prog X.w) X.A (subscriptTail value slice v u) (EP X pins σ Q) X.xe s
noncomputable def MtR (X:Cx) (id:String) (r:V->List V->Hp->VK->Prop):Prop :=
 ∀ (pins:List (Addr × Obj)) (s:Shared) (σ:St) (H:Hp) (x:V) (xs:List V) (v:Value) (us:List Value) (Q:VK),Inv X pins σ H s->RelV x v->Vals xs us->r x xs H Q ->
  wpAny (model X.prog X.w) X.A (call (.builtin id) (v::us)) (EP X pins σ Q) X.xe s
section
variable {X:Cx} {a b:Expr} {ta tb:TE} {pos:Pos}
theorem Zz {r:R2} (hr:IxR X r) (ha:PE X a ta) (hb:PE X b tb) (hs:Zjq b):PE X (.Subscript a b pos) (tOp r ta tb):=by
 intro pins s σ H Q I h
 exact Subscript_ (Zkk ha hb I h fun v u s2 x y H2 I2 rx ry q=>hr a b pins s2 σ H2 x y v u Q I2 rx ry q (hs _ _))
inductive ZjD (K:PySem.W.Frag) (x:V) (y:V) (H:Hp) (Q:VK):Prop where
 | mk (p:Addr) (xs:List V) (i:Int) (v:V) (_:x = .ref p) (_:y = .int i) (_:SqL K H p xs) (_:atI xs i=some v) (_:Q v H):ZjD K x y H Q
noncomputable def ZkL (K:PySem.W.Frag):R2:=fun x y H Q=>ZjD K x y H Q
inductive ZjC (K:PySem.W.Frag) (x:V) (y:V) (H:Hp) (Q:VK):Prop where
 | mk (p:Addr) (xs:List V) (i:Int) (v:V) (_:x = .ref p) (_:y = .int i) (_:SqT K H p xs) (_:atI xs i=some v) (_:Q v H):ZjC K x y H Q
noncomputable def ZkK (K:PySem.W.Frag):R2:=fun x y H Q=>ZjC K x y H Q
theorem YK:IxR X (ZkL X.K):=by
 intro value slice pins s σ H x y v u Q I rx ry h hs
 obtain ⟨p,xs,i,z,rfl,rfl,hq,he,q⟩:=h
 cases rx
 obtain ⟨t,rfl⟩:=ry
 obtain ⟨its,r,pl,hz⟩:=I.list hq
 obtain ⟨j,h1,h2,h3,h4,h5⟩:=Zga he
 obtain ⟨w,ew,rw'⟩:=r.get h2
 have hl:=r.length
 have hn:=Zfj
 have fin:EP X pins σ Q w s:=⟨z,H,I,rw',q⟩
 by_cases h0:0<=i
 ·have hj:i.toNat=j:=by
   rw [seqIndex_of h0 h5] at h1
   exact Option.some.inj h1
  exact item_listR pl.isList h0 (by exact Om.k206 hz h5 hl hn) (by rw [hj]; simpa using ew) fin hs
 ·have hj:(i+(its.toArray.size:Int)).toNat=j:=by
   rw [seqIndex_neg (by exact Om.k205 h0) h4] at h1
   rw [List.size_toArray,<- hl]
   exact Option.some.inj h1
  exact subscriptTail_builtinR (x:=w) pl.isList.typeIs slot_list_getitem.lookup
   (wpAny_getItem_list_neg (Q:=fun r s'=>r=w/\EP X pins σ Q r s') pl.isList (by exact Om.k205 h0) (by rw [List.size_toArray] <;> exact Om.k204 h4 hl) (by exact Om.k203 hz h4 hl hn) (by rw [hj]; simpa using ew) ⟨rfl,fin⟩) hs
theorem ZI:IxR X (ZkK X.K):=by
 intro value slice pins s σ H x y v u Q I rx ry h hs
 obtain ⟨p,xs,i,z,rfl,rfl,hq,he,q⟩:=h
 cases rx
 obtain ⟨t,rfl⟩:=ry
 obtain ⟨its,r,pl,hz⟩:=I.tuple hq
 obtain ⟨j,h1,h2,h3,h4,h5⟩:=Zga he
 obtain ⟨w,ew,rw'⟩:=r.get h2
 have hl:=r.length
 have hn:=Zfj
 have fin:EP X pins σ Q w s:=⟨z,H,I,rw',q⟩
 exact subscriptTail_builtinR (x:=w) pl.typeIs slot_tuple_getitem.lookup
  (getItem_tuple (j:=j) (Q:=fun r s'=>r=w/\EP X pins σ Q r s') pl (by exact Om.k202 hz h3 h4 hl hn) (by exact Om.k201 hz h3 h5 hl hn) (by rw [List.size_toArray,<- hl]; exact h1) (by simpa using ew) ⟨rfl,fin⟩) hs
theorem Zdq (lo hi:Option Int) (n:Nat):(sliceBounds lo hi none n).1=((HT.sIx n 0 lo:Nat):Int)/\(sliceBounds lo hi none n).2.1=((HT.sIx n n hi:Nat):Int)/\(sliceBounds lo hi none n).2.2=1:=by
 refine ⟨?_,?_,rfl⟩
 ·cases lo with
  | none=>simp [sliceBounds,HT.sIx]
  | some i =>
   simp only [sliceBounds,HT.sIx,Option.getD_none,show (1:Int)>0 by decide,if_true]
   by_cases h:i<0
   ·simp only [h,if_true] <;> exact Om.k200 h
   ·simp only [h,if_false] <;> exact Om.k199 h
 ·cases hi with
  | none=>simp [sliceBounds,HT.sIx]
  | some i =>
   simp only [sliceBounds,HT.sIx,Option.getD_none,show (1:Int)>0 by decide,if_true]
   by_cases h:i<0
   ·simp only [h,if_true] <;> exact Om.k200 h
   ·simp only [h,if_false] <;> exact Om.k199 h
theorem Zcx (its:List Value) (lo hi:Option Int):slicePick its.toArray lo hi none=((its.drop (HT.sIx its.length 0 lo)).take (HT.sIx its.length its.length hi - HT.sIx its.length 0 lo)).toArray:=by
 obtain ⟨h1,h2,h3⟩:=Zdq lo hi its.toArray.size
 unfold slicePick
 rw [h1,h2,h3]
 simp only [sliceRange_one,pick_run,List.size_toArray] <;> rfl
noncomputable def Zli (K:PySem.W.Frag):V->Option Int->Option Int->Hp->VK->Prop:=fun x lo hi H Q=>∃ a xs,x = .ref a/\SqL K H a xs/\∀ p,H p=none->Q (.ref p) (upd H p (.lst (Zal xs lo hi)))
theorem Zdr:SlR X (Zli X.K):=by
 intro pins s σ H x v vl vu lo hi sl Q I rx hs pl pu h
 obtain ⟨a,xs,rfl,hx,q⟩:=h
 cases rx
 obtain ⟨its,r,ht,hz⟩:=I.list hx
 have hlen:=r.length
 refine ⟨"list",_,slot_list_getitem.lookup,ht.isList.typeIs,?_⟩
 refine wpAny_getItem_list_slice ht.isList hs pl pu .none (by simp) ?_ (by rw [List.size_toArray] <;> exact Om.y2 ‹_› ‹_› rfl)
 rw [Zcx,<- hlen]
 refine ⟨.ref s.heap.objs.size,_,I.laid (t':=s.toks) (o:=.lst (Zal xs lo hi)) (fun b ob q=>Heap.get?_push_of_some _ q) (Nat.le_refl _) ?_,rfl,q _ (I.hok.fresh (Nat.le_refl _))⟩
 exact ⟨Nat.le_trans (Zby xs lo hi) hz,_,0,(r.drop (HT.sIx xs.length 0 lo)).take (HT.sIx xs.length xs.length hi - HT.sIx xs.length 0 lo),Heap.get?_push_size _ rfl⟩
noncomputable def ZK:V->Bool
 | .non=>true
 | .bl _=>true
 | .int _=>true
 | .str _=>true
 | _=>false
noncomputable def eqV:V->V->Bool
 | .non,.non=>true
 | .bl a,.bl b=>a==b
 | .bl a,.int b=>(if a then 1 else 0)==b
 | .int a,.bl b=>a==(if b then 1 else 0)
 | .int a,.int b=>a==b
 | .str a,.str b=>a==b
 | _,_=>false
theorem Zfo {A:Around} {s:Shared} {y x:V} {u v:Value} (ry:RelV y u) (rx:RelV x v) (fy:ZK y=true) (fx:ZK x=true):SeqAt.EqAt A s u v (eqV y x):=by
 cases y with
 | non =>
  cases ry
  cases x with
  | non=>cases rx; exact SeqAt.EqAt.same _
  | bl b=>cases rx; exact SeqAt.EqAt.none_bool b
  | int b=>obtain ⟨t,rfl⟩:=rx; exact SeqAt.EqAt.none_int b t
  | str b=>obtain ⟨t,rfl⟩:=rx; exact SeqAt.EqAt.none_str b t
  | _=>exact absurd (show false=true from fx) Bool.false_ne_true
 | bl a =>
  cases ry
  cases x with
  | non=>cases rx; exact SeqAt.EqAt.bool_none a
  | bl b=>cases rx; exact SeqAt.EqAt.bool_bool a b
  | int b=>obtain ⟨t,rfl⟩:=rx; exact SeqAt.EqAt.bool_int a b t
  | str b=>obtain ⟨t,rfl⟩:=rx; exact SeqAt.EqAt.bool_str a b t
  | _=>exact absurd (show false=true from fx) Bool.false_ne_true
 | int a =>
  obtain ⟨t',rfl⟩:=ry
  cases x with
  | non=>cases rx; exact SeqAt.EqAt.int_none a t'
  | bl b=>cases rx; exact SeqAt.EqAt.int_bool a t' b
  | int b=>obtain ⟨t,rfl⟩:=rx; exact SeqAt.EqAt.int_int a t' b t
  | str b=>obtain ⟨t,rfl⟩:=rx; exact SeqAt.EqAt.int_str a t' b t
  | _=>exact absurd (show false=true from fx) Bool.false_ne_true
 | str a =>
  obtain ⟨t',rfl⟩:=ry
  cases x with
  | non=>cases rx; exact SeqAt.EqAt.str_none a t'
  | bl b=>cases rx; exact SeqAt.EqAt.str_bool a t' b
  | int b=>obtain ⟨t,rfl⟩:=rx; exact SeqAt.EqAt.str_int a t' b t
  | str b=>obtain ⟨t,rfl⟩:=rx; exact SeqAt.EqAt.str_str a t' b t
  | _=>exact absurd (show false=true from fx) Bool.false_ne_true
 | _=>exact absurd (show false=true from fy) Bool.false_ne_true
noncomputable def eqU (x:V) (u:Value):Bool:=match u with
 | .none=>eqV .non x
 | .bool b=>eqV (.bl b) x
 | .int i _=>eqV (.int i) x
 | .str z _=>eqV (.str z) x
 | _=>false
theorem Zii {x y:V} {u:Value} (r:RelV y u) (f:ZK y=true):eqU x u=eqV y x:=by
 cases y with
 | non=>cases r; rfl
 | bl b=>cases r; rfl
 | int i=>obtain ⟨t,rfl⟩:=r; rfl
 | str z=>obtain ⟨t,rfl⟩:=r; rfl
 | _=>exact absurd (show false=true from f) Bool.false_ne_true
theorem Za2 {x:V}:∀ {xs:List V} {us:List Value},Vals xs us->xs.all ZK=true->us.any (eqU x)=xs.any fun y=>eqV y x
 | _,_,.nil,_=>rfl
 | y::xs,u::us,.cons r t,f=>by
  rw [List.all_cons,Bool.and_eq_true] at f
  rw [List.any_cons,List.any_cons,Zii r f.1,Za2 t f.2]
theorem Zag {A:Around} {s:Shared} {x:V} {v:Value} (rx:RelV x v) (fx:ZK x=true):∀ {xs:List V} {us:List Value},Vals xs us->xs.all ZK=true->∀ u∈us,SeqAt.EqAt A s u v (eqU x u)
 | _,_,.nil,_=>fun u hu=>by cases hu
 | y::xs,u::us,.cons r t,f=>fun u' hu=>by
  rw [List.all_cons,Bool.and_eq_true] at f
  rcases List.mem_cons.mp hu with rfl | hu
  ·rw [Zii r f.1]; exact Zfo r rx f.1 fx
  ·exact Zag rx fx t f.2 u' hu
noncomputable def inV (x:V) (xs:List V):Bool:=xs.any fun y=>eqV y x
inductive Zk1 (K:PySem.W.Frag) (neg:Bool) (x:V) (y:V) (H:Hp) (Q:VK):Prop where
 | mk (p:Addr) (xs:List V) (_:y = .ref p) (_:(SqL K H p xs\/SqT K H p xs)) (_:ZK x=true) (_:xs.all ZK=true) (_:Q (.bl (if neg then !inV x xs else inV x xs)) H):Zk1 K neg x y H Q
noncomputable def rIn (K:PySem.W.Frag) (neg:Bool):R2:=fun x y H Q=>Zk1 K neg x y H Q
theorem Zgy:OpR X (compareOp .In) (rIn X.K false):=by
 intro pins s σ H x y v u Q I rx ry h
 obtain ⟨p,xs,rfl,hq,fx,fs,q⟩:=h
 cases ry
 rcases hq with hq | hq
 ·obtain ⟨its,r,pl,hz⟩:=I.list hq
  refine SeqAt.in_listAt (eqU x) pl.isList (fun w hw=>Zag rx fx r fs w (by simpa using hw)) ⟨.bl _,H,I,rfl,?_⟩
  rw [show its.toArray.any (eqU x)=its.any (eqU x) by simp,Za2 r fs]
  exact q
 ·obtain ⟨its,r,pl,hz⟩:=I.tuple hq
  refine SeqAt.in_tupleAt (eqU x) pl (fun w hw=>Zag rx fx r fs w (by simpa using hw)) ⟨.bl _,H,I,rfl,?_⟩
  rw [show its.toArray.any (eqU x)=its.any (eqU x) by simp,Za2 r fs]
  exact q
theorem Zdz:OpR X (compareOp .NotIn) (rIn X.K true):=by
 intro pins s σ H x y v u Q I rx ry h
 obtain ⟨p,xs,rfl,hq,fx,fs,q⟩:=h
 cases ry
 rcases hq with hq | hq
 ·obtain ⟨its,r,pl,hz⟩:=I.list hq
  refine SeqAt.notIn_listAt (eqU x) pl.isList (fun w hw=>Zag rx fx r fs w (by simpa using hw)) ⟨.bl _,H,I,rfl,?_⟩
  rw [show its.toArray.any (eqU x)=its.any (eqU x) by simp,Za2 r fs]
  exact q
 ·obtain ⟨its,r,pl,hz⟩:=I.tuple hq
  refine SeqAt.notIn_tupleAt (eqU x) pl (fun w hw=>Zag rx fx r fs w (by simpa using hw)) ⟨.bl _,H,I,rfl,?_⟩
  rw [show its.toArray.any (eqU x)=its.any (eqU x) by simp,Za2 r fs]
  exact q
theorem ZdO:JV X (.builtin "len") (fun xs H Q=>∃ p ys,xs=[.ref p]/\(SqL X.K H p ys\/SqT X.K H p ys)/\Q (.int ys.length) H):=by
 intro pins s σ H xs us Q I r h
 obtain ⟨p,ys,rfl,hq,q⟩:=h
 obtain ⟨u,rfl,rx⟩:=ZaG r
 cases rx
 have hn:=Zfj
 rcases hq with hq | hq
 ·obtain ⟨its,r',pl,hz⟩:=I.list hq
  have hlen:=r'.length
  exact Calls.call_len_list pl.isList (by simp only [List.size_toArray] <;> exact Om.k198 hn hz hlen) ⟨.int ys.length,H,I.tok _,⟨s.toks+1,by rw [List.size_toArray,hlen]⟩,q⟩
 ·obtain ⟨its,r',pl,hz⟩:=I.tuple hq
  have hlen:=r'.length
  exact len_tuple pl (by simp only [List.size_toArray] <;> exact Om.k198 hn hz hlen) ⟨.int ys.length,H,I.tok _,⟨s.toks+1,by rw [List.size_toArray,hlen]⟩,q⟩
theorem Za1:JV X (.type "list") (fun xs H Q=>∃ p ys,xs=[.ref p]/\(SqL X.K H p ys\/SqT X.K H p ys)/\∀ l,H l=none->Q (.ref l) (upd H l (.lst ys))):=by
 intro pins s σ H xs us Q I r h
 obtain ⟨p,ys,rfl,hq,q⟩:=h
 obtain ⟨u,rfl,rx⟩:=ZaG r
 cases rx
 have fin:∀ (its:List Value),Vals ys its->ys.length<=sizeLine->∀ (h':Heap) (c':Nat),(∀ b o',s.heap.get? b=some o'->h'.get? b=some o') ->
   h'.get? s.heap.objs.size=some { cls:=.type "list",dict:=none,data:=.seq its.toArray c',slots:=#[] }->EP X pins σ Q (.ref s.heap.objs.size) { s with heap:=h' }:=fun its r' hz h' c' kp e =>
  ⟨.ref s.heap.objs.size,_,I.laid (t':=s.toks) kp (Nat.le_refl _) (show ObjOk X.prog X.w _ h' _ (.lst ys) from ⟨hz,its,c',r',e⟩),rfl,q _ (I.hok.fresh (Nat.le_refl _))⟩
 rcases hq with hq | hq
 ·obtain ⟨its,r',pl,hz⟩:=I.list hq
  have hlen:=r'.length
  obtain ⟨o,ho,hc,n,hd⟩:=pl.isList
  exact call_list_seq p (.inl rfl) ho hc hd (fun h' c' kp e=>fin its r' hz h' c' kp e) (by simp only [List.size_toArray] <;> exact Om.y2 ‹_› ‹_› rfl)
 ·obtain ⟨its,r',pl,hz⟩:=I.tuple hq
  have hlen:=r'.length
  obtain ⟨o,ho,hc,n,hd⟩:=pl
  exact call_list_seq p (.inr rfl) ho hc hd (fun h' c' kp e=>fin its r' hz h' c' kp e) (by simp only [List.size_toArray] <;> exact Om.y2 ‹_› ‹_› rfl)
theorem ZcD:JV X (.type "tuple") (fun xs H Q=>∃ p ys,xs=[.ref p]/\((SqL X.K H p ys/\∀ l,H l=none->Q (.ref l) (upd H l (.tup ys)))\/(SqT X.K H p ys/\Q (.ref p) H))):=by
 intro pins s σ H xs us Q I r h
 obtain ⟨p,ys,rfl,h⟩:=h
 obtain ⟨u,rfl,rx⟩:=ZaG r
 cases rx
 rcases h with ⟨hq,q⟩ | ⟨hq,q⟩
 ·obtain ⟨its,r',pl,hz⟩:=I.list hq
  have hlen:=r'.length
  refine call_tuple_list pl.isList (fun h' kp=>?_) (by simp only [List.size_toArray] <;> exact Om.y2 ‹_› ‹_› rfl)
  have I1:Inv X pins σ H { s with heap:=h' }:=I.kept (t':=s.toks) kp
  have I2:Inv X pins σ (upd H h'.objs.size (.tup ys)) { s with heap:=h'.push { cls:=.type "tuple",data:=.seq its.toArray } } :=
   I1.laid (t':=s.toks) (fun b o e=>Heap.get?_push_of_some _ e) (Nat.le_refl _) (show ObjOk X.prog X.w _ _ _ (.tup ys) from ⟨hz,its,r',IsTupN.new _ _⟩)
  exact ⟨.ref h'.objs.size,_,I2,rfl,q _ (I1.hok.fresh (Nat.le_refl _))⟩
 ·obtain ⟨its,r',pl,hz⟩:=I.tuple hq
  exact call_tuple_same pl ⟨.ref p,H,I,rfl,q⟩
noncomputable def tyV (K:PySem.W.Frag) (T:String) (x:V) (H:Hp):Prop:=match x with
 | .str _=>T = "str"
 | .int _=>T = "int"
 | .ref p=>(T = "list" /\ ∃ xs,SqL K H p xs)\/(T = "tuple" /\ ∃ o,K.lookup p=some o/\o.cls = .type "tuple" /\ o.dict=none) \/
   (T = "dict" /\ ((∃ kvs,H p=some (.dK kvs))\/∃ kvs,H p=some (.dT kvs)))\/(T = "set" /\ ∃ S n,H p=some (.set S n))
 | _=>False
theorem Zg6 {pins:List (Addr × Obj)} {σ:St} {H:Hp} {s:Shared} {T:String} {x:V} {v:Value} (I:Inv X pins σ H s) (r:RelV x v) (ty:tyV X.K T x H) :
  s.TypeIs v T/\∀ a,v = .ref a->∃ ob,s.heap.get? a=some ob/\ob.dict=none:=by
 cases x with
 | str z =>
  obtain ⟨t,rfl⟩:=r
  cases (show T = "str" from ty)
  exact ⟨typeIs_str s z t,fun _ e=>nomatch e⟩
 | int i =>
  obtain ⟨t,rfl⟩:=r
  cases (show T = "int" from ty)
  exact ⟨typeIs_int s i t,fun _ e=>nomatch e⟩
 | ref p =>
  cases r
  rcases ty with ⟨rfl,xs,hq⟩ | ⟨rfl,o,hk,hc,hd⟩ | ⟨rfl,hk⟩ | ⟨rfl,S,n,hk⟩
  ·obtain ⟨its,_,pl,_⟩:=I.list hq
   refine ⟨pl.isList.typeIs,fun a e=>?_⟩
   cases e
   obtain ⟨o,n,e,c,hd,_⟩:=pl
   exact ⟨o,e,hd⟩
  ·refine ⟨⟨o,I.kIn p o hk,hc⟩,fun a e=>?_⟩
   cases e
   exact ⟨o,I.kIn _ o hk,hd⟩
  ·have z:∃ o,s.heap.get? p=some o/\o.ExactDict:=by
    rcases hk with ⟨kvs,hk⟩ | ⟨kvs,hk⟩
    ·obtain ⟨_,_,_,_,o,_,_,e,ex,_⟩:=I.hok p _ hk
     exact ⟨o,e,ex⟩
    ·obtain ⟨_,_,_,_,o,_,_,e,ex,_⟩:=I.hok p _ hk
     exact ⟨o,e,ex⟩
   obtain ⟨o,e,ex⟩:=z
   refine ⟨⟨o,e,ex.1⟩,fun a e2=>?_⟩
   cases e2
   exact ⟨o,e,ex.2.1⟩
  ·obtain ⟨o,_,_,_,e,ex,_⟩:=I.hok p _ hk
   refine ⟨⟨o,e,ex.1⟩,fun a e2=>?_⟩
   cases e2
   exact ⟨o,e,ex.2.1⟩
 | _=>exact False.elim ty
noncomputable def Zle (K:PySem.W.Frag) (T:String) (r:V->List V->Hp->VK->Prop) (to:TE):TE:=fun σ H Q=>to σ H fun x H1=>tyV K T x H1/\r x [] H1 Q
noncomputable def tBM (K:PySem.W.Frag) (T:String) (r:V->List V->Hp->VK->Prop) (to:TE) (t:TA):TE:=fun σ H Q=>to σ H fun x H1=>tyV K T x H1/\t σ H1 fun xs H2=>r x xs H2 Q
variable {o e:Expr} {es:List Expr} {to:TE} {t:TA} {name:Str} {apos cpos:Pos} {T id:String} {r:V->List V->Hp->VK->Prop}
theorem ZjZ (pa:PlainAttrs T) (slot:Slot T name id) (hty:typeOf (.builtin id)=pure (.type "method_descriptor")) (hm:MtR X id r) (ho:PE X o to)
  (hbase:attributeBase o name X.env (eval o X.env)=eval o X.env:=by rfl) (hline:(apos.endLine==cpos.line)=true:=by rfl):PE X (.Call (.Attribute o name apos) [] [] cpos) (Zle X.K T r to):=by
 intro pins s σ H Q I h
 refine wpAny_Call_method0_late hbase hline (thn (ho pins s σ H _ I h) fun v s1 zz0=>?_)
 obtain ⟨x,H1,I1,r1,ty,q1⟩:=zz0
 obtain ⟨h1,h2⟩:=Zg6 I1 r1 ty
 exact ⟨T,id,pa,slot,hty,h1,h2,Calls.callWith_builtin rfl (PySem.evalArgs_none (hm pins s1 σ H1 x [] v [] Q I1 r1 .nil q1))⟩
theorem JC (pa:PlainAttrs T) (slot:Slot T name id) (hty:typeOf (.builtin id)=pure (.type "method_descriptor")) (hm:MtR X id r) (ho:PE X o to) (ha:PA X (e::es) t)
  (hbase:attributeBase o name X.env (eval o X.env)=eval o X.env:=by rfl)
  (hfew:((backTo cpos (starEach (e::es) X.env)).all (fun x=>!x.1)&&(backToKw cpos (keywordEach [] X.env)).all (fun x=>x.1.isSome)
   && decide ((e::es).length+([]:List Keyword).length+(if ([]:List Keyword).isEmpty then 0 else 1)<30))=true:=by rfl)
  (hline:(apos.endLine==cpos.line)=true:=by rfl) (hs:starEach (e::es) X.env=(false,eval e X.env)::starEach es X.env:=by rfl) (hplain:(backTo cpos (starEach es X.env)).any (·.1)=false:=by rfl) :
  PE X (.Call (.Attribute o name apos) (e::es) [] cpos) (tBM X.K T r to t):=by
 intro pins s σ H Q I h
 refine wpAny_Call_method_late hbase hfew hline rfl (thn (ho pins s σ H _ I h) fun v s1 zz0=>?_)
 obtain ⟨x,H1,I1,r1,ty,q1⟩:=zz0
 obtain ⟨h1,h2⟩:=Zg6 I1 r1 ty
 refine ⟨T,id,pa,slot,hty,h1,h2,?_⟩
 have hA:=ha cpos pins s1 σ H1 _ I1 q1
 rw [hs] at hA ⊢
 refine Calls.callWith_builtin (by show (false||(backTo cpos (starEach es X.env)).any (·.1))=false; rw [hplain] <;> rfl) (Calls.evalArgs_plain ?_)
 exact thn hA fun us s2 ⟨vs,H2,I2,r2,q2⟩=>hm pins s2 σ H2 x vs v us Q I2 r1 r2 q2
end
end L2
namespace L2
open PySem PySem.Spec PyProof.Rows
noncomputable def MtM (X:Cx) (id:String) (r:V->List V->Hp->VK->Prop):Prop :=
 ∀ (pins:List (Addr × Obj)) (s:Shared) (σ:St) (H:Hp) (x:V) (xs:List V) (v:Value) (us:List Value) (Q:VK),Inv X pins σ H s->RelV x v->Vals xs us->r x xs H Q ->
  wpAny (model X.prog X.w) X.A (call (.builtin id) (v::us)) (EP X pins σ Q) X.xe s
theorem Vals.one:∀ {x:V} {us:List Value},Vals [x] us->∃ u,us=[u]/\RelV x u
 | _,_,.cons r .nil=>⟨_,rfl,r⟩
theorem Vals.zero:∀ {us:List Value},Vals [] us->us=[]
 | _,.nil=>rfl
theorem Vals.dropLast {xs:List V} {us:List Value} (h:Vals xs us):Vals xs.dropLast us.dropLast:=by
 induction h with
 | nil=>exact .nil
 | cons r t ih =>
  cases t with
  | nil=>exact .nil
  | cons q t'=>exact .cons r ih
theorem Vals.eraseIdx:∀ {xs:List V} {us:List Value} (i:Nat),Vals xs us->Vals (xs.eraseIdx i) (us.eraseIdx i)
 | _,_,_,.nil=>.nil
 | _,_,0,.cons _ t=>t
 | _,_,i+1,.cons r t=>.cons r (Vals.eraseIdx i t)
theorem Vals.rep {xs:List V} {us:List Value} (h:Vals xs us):∀ k:Nat,Vals (List.replicate k xs).flatten (List.replicate k us).flatten
 | 0=>.nil
 | k+1=>by
  rw [List.replicate_succ,List.replicate_succ,List.flatten_cons,List.flatten_cons]
  exact Vals.append h (Vals.rep h k)
theorem Zfm {α:Type} (l:List α):l.eraseIdx (l.length - 1)=l.dropLast:=by
 induction l with
 | nil=>rfl
 | cons a r ih =>
  cases r with
  | nil=>rfl
  | cons b r =>
   have e:(a::b::r).length - 1=((b::r).length - 1)+1:=by
    have h1:(a::b::r).length=r.length+2:=rfl
    have h2:(b::r).length=r.length+1:=rfl
    omega
   rw [e,List.eraseIdx_cons_succ,ih]
   all_goals rfl
theorem ZcV {α:Type}:∀ (l:List α) (i:Nat),(l.eraseIdx i).length<=l.length
 | [],_=>Nat.le_refl _
 | _::_,0=>Nat.le_succ _
 | _::r,i+1=>Nat.succ_le_succ (ZcV r i)
theorem Zc2 (its:List Value):∀ (k:Nat) (acc:List Value),
  List.foldl (fun x1 x2=>x1++x2) acc.toArray (List.replicate k its.toArray)=(acc++(List.replicate k its).flatten).toArray
 | 0,acc=>by simp
 | k+1,acc=>by
  have e:acc.toArray++its.toArray=(acc++its).toArray:=by simp
  have e2:(acc++its)++(List.replicate k its).flatten=acc++(List.replicate (k+1) its).flatten:=by
   rw [List.replicate_succ,List.flatten_cons,List.append_assoc]
  rw [<- e2,<- Zc2 its k (acc++its),<- e,List.replicate_succ,List.foldl_cons]
section
variable {X:Cx} {pins:List (Addr × Obj)} {σ:St} {H:Hp} {s:Shared} {l b:Addr} {xs ys zs:List V}
theorem Inv.lset {its its':List Value} {n:Nat} {f:Array Value->Array Value} {t':Nat} (I:Inv X pins σ H s) (hH:H l=some (.lst xs))
  (e:s.heap.get? l=some { cls:=.type "list",data:=.seq its.toArray n }) (hf:f its.toArray=its'.toArray) (hv:Vals ys its') (hz:ys.length<=sizeLine) :
  Inv X pins σ (upd H l (.lst ys)) { s with heap:=s.heap.update l (Obj.mapSeq f),toks:=t' }:=by
 have q:=PySem.IsL.update e f
 rw [hf] at q
 refine I.write (x:=l) (e:=l) (by rw [hH]; exact trivial) (.inl rfl) (fun b' u hb hu=>(Heap.get?_update_other s.heap (Obj.mapSeq f) (Ne.symm hb)).trans hu) ⟨_,q⟩ ?_
 exact ⟨hz,its',_,hv,q⟩
theorem Inv.lnew {its:List Value} {t':Nat} (I:Inv X pins σ H s) (hv:Vals ys its) (hz:ys.length<=sizeLine) :
  Inv X pins σ (upd H s.heap.objs.size (.lst ys)) { s with heap:=s.heap.push { cls:=.type "list",data:=.seq its.toArray },toks:=t' } :=
 I.laid (fun _ _ q=>Heap.get?_push_of_some _ q) (Nat.le_refl _) ⟨hz,its,0,hv,Heap.get?_push_size _ rfl⟩
theorem Inv.fresh (I:Inv X pins σ H s):H s.heap.objs.size=none:=I.hok.fresh (Nat.le_refl _)
theorem Inv.lstM (I:Inv X pins σ H s) (hH:H l=some (.lst xs)):xs.length<=sizeLine/\∃ (its:List Value) (n:Nat),Vals xs its/\xs.length=its.length/\s.heap.get? l=some { cls:=.type "list",data:=.seq its.toArray n }:=by
 obtain ⟨z,its,n,r,e⟩:=I.hok l _ hH
 exact ⟨z,its,n,r,r.length,e⟩
theorem ZhQ {n:Nat} (h:n<=sizeLine):Builtin.List.listTooLong n=false:=by
 unfold Builtin.List.listTooLong
 exact decide_eq_false (by exact Om.k172 h)
end
section
variable {X:Cx}
inductive ZeD (x:V) (vs:List V) (H:Hp) (Q:VK):Prop where
 | mk (l:Addr) (xs:List V) (y:V) (_:x = .ref l) (_:vs=[y]) (_:H l=some (.lst xs)) (_:xs.length<sizeLine) (_:Q .non (upd H l (.lst (xs++[y])))):ZeD x vs H Q
noncomputable def ZiK:V->List V->Hp->VK->Prop:=fun x vs H Q=>ZeD x vs H Q
theorem Z5:MtM X "list.append" ZiK:=by
 intro pins s σ H x vs v us Q I rx rv h
 obtain ⟨l,xs,y,rfl,rfl,hH,hz,q⟩:=h
 cases rx
 obtain ⟨u,rfl,ru⟩:=rv.one
 obtain ⟨z,its,n,r,hl,e⟩:=I.lstM hH
 refine call_meets F.slot_list_append ⟨_,e,rfl⟩ F.entry_list_append (F.args_list_append_2 _ _) (PySem.list_append l its.toArray n u (by rw [List.size_toArray]; exact Om.y2 ‹_› ‹_› rfl)) ⟨e,?_⟩
 refine ⟨.non,_,I.lset (its':=its++[u]) hH e (by simp) (r.append (.cons ru .nil)) ?_,rfl,q⟩
 rw [List.length_append,List.length_singleton]
 exact Om.f1 ‹_›
inductive ZeC (x:V) (vs:List V) (H:Hp) (Q:VK):Prop where
 | mk (l:Addr) (b:Addr) (xs:List V) (zs:List V) (_:x = .ref l) (_:vs=[.ref b]) (_:H l=some (.lst xs)) (_:H b=some (.lst zs)) (_:xs.length+zs.length<=sizeLine) (_:Q .non (upd H l (.lst (xs++zs)))):ZeC x vs H Q
noncomputable def ZiJ:V->List V->Hp->VK->Prop:=fun x vs H Q=>ZeC x vs H Q
theorem ZgG:MtM X "list.extend" ZiJ:=by
 intro pins s σ H x vs v us Q I rx rv h
 obtain ⟨l,b,xs,zs,rfl,rfl,hH,hB,hz,q⟩:=h
 cases rx
 obtain ⟨u,rfl,ru⟩:=rv.one
 cases ru
 obtain ⟨z,its,n,r,hl,e⟩:=I.lstM hH
 obtain ⟨z2,its2,n2,r2,hl2,e2⟩:=I.lstM hB
 have hsz:its.toArray.size+its2.toArray.size<=sizeLine:=by rw [List.size_toArray,List.size_toArray]; exact Om.k196 hz hl hl2
 have hlong:¬ (!its.toArray.isEmpty&&Builtin.List.listTooLong (its.toArray.size+its2.toArray.size))=true:=by
  rw [ZhQ hsz,Bool.and_false]
  exact Bool.false_ne_true
 refine call_meets F.slot_list_extend ⟨_,e,rfl⟩ F.entry_list_extend (F.args_list_extend_2 _ _)
  (AutoSeq1.list_extend_list_list_0 l its.toArray n b its2.toArray n2 hlong (by rw [List.size_toArray]; exact Om.y2 ‹_› ‹_› rfl) (by exact Om.b1 ‹_› rfl)) ⟨e,e2,?_⟩
 refine ⟨.non,_,I.lset (its':=its++its2) hH e (by simp) (r.append r2) ?_,rfl,q⟩
 rw [List.length_append]
 assumption
noncomputable def Zlj:V->List V->Hp->VK->Prop:=fun x vs H Q=>∃ l xs y,x = .ref l/\vs=[]/\H l=some (.lst xs)/\xs[xs.length - 1]? = some y/\Q y (upd H l (.lst xs.dropLast))
theorem Zj6:MtM X "list.pop" Zlj:=by
 intro pins s σ H x vs v us Q I rx rv h
 obtain ⟨l,xs,y,rfl,rfl,hH,hy,q⟩:=h
 cases rx
 have hus:=rv.zero
 subst hus
 obtain ⟨z,its,n,r,hl,e⟩:=I.lstM hH
 obtain ⟨u,hu,ru⟩:=r.get hy
 have hy':its.toArray[its.toArray.size - 1]? = some u:=by
  show its.toArray[its.length - 1]? = some u
  rw [<- Array.getElem?_toList,<- hl]
  exact hu
 refine call_meets F.slot_list_pop ⟨_,e,rfl⟩ F.entry_list_pop (F.args_list_pop_1 _) (MeetsSeq.list_pop_last l its.toArray n u hy' (by rw [List.size_toArray]; exact Om.y2 ‹_› ‹_› rfl)) ⟨e,?_⟩
 refine ⟨y,_,I.lset (its':=its.dropLast) hH e ?_ r.dropLast ?_,ru,q⟩
 ·show its.toArray.eraseIdxIfInBounds (its.toArray.size - 1)=its.dropLast.toArray
  rw [List.size_toArray,List.eraseIdxIfInBounds_toArray,Zfm]
 ·rw [List.length_dropLast]
  exact Om.k197 z hl
noncomputable def ZjT:V->List V->Hp->VK->Prop:=fun x vs H Q=>∃ l xs i k y,x = .ref l/\vs=[.int i]/\H l=some (.lst xs) /\ -(2 ^ 63)<=i/\i<2 ^ 63/\seqIndex? i xs.length=some k/\xs[k]? = some y/\Q y (upd H l (.lst (xs.eraseIdx k)))
theorem ZhT:MtM X "list.pop" ZjT:=by
 intro pins s σ H x vs v us Q I rx rv h
 obtain ⟨l,xs,i,k,y,rfl,rfl,hH,h1,h2,hk,hy,q⟩:=h
 cases rx
 obtain ⟨u,rfl,ru⟩:=rv.one
 obtain ⟨t,rfl⟩:=ru
 obtain ⟨z,its,n,r,hl,e⟩:=I.lstM hH
 obtain ⟨w,hw,rw'⟩:=r.get hy
 refine call_meets F.slot_list_pop ⟨_,e,rfl⟩ F.entry_list_pop (F.args_list_pop_2 _ _)
  (MeetsSeq.list_pop_at l its.toArray n i t k w (fitsIndex_both h1 h2) (by rw [List.size_toArray,<- hl]; exact hk) (by rw [<- Array.getElem?_toList]; exact hw) (by rw [List.size_toArray]; exact Om.y2 ‹_› ‹_› rfl)) ⟨e,?_⟩
 refine ⟨y,_,I.lset (its':=its.eraseIdx k) hH e ?_ (r.eraseIdx k) ?_,rw',q⟩
 ·show its.toArray.eraseIdxIfInBounds k=(its.eraseIdx k).toArray
  rw [List.eraseIdxIfInBounds_toArray]
 ·have:=ZcV xs k
  exact Om.b3 ‹_› ‹_› rfl
inductive ZjE (x:V) (y:V) (H:Hp) (Q:VK):Prop where
 | mk (l:Addr) (b:Addr) (xs:List V) (zs:List V) (_:x = .ref l) (_:y = .ref b) (_:H l=some (.lst xs)) (_:H b=some (.lst zs)) (_:xs.length+zs.length<=sizeLine) (_:∀ p,H p=none->Q (.ref p) (upd H p (.lst (xs++zs)))):ZjE x y H Q
noncomputable def Zlm:R2:=fun x y H Q=>ZjE x y H Q
theorem Zb5:OpR X (binaryOp .Add) Zlm:=by
 intro pins s σ H x y v u Q I rx ry h
 obtain ⟨l,b,xs,zs,rfl,rfl,hH,hB,hz,q⟩:=h
 cases rx
 cases ry
 obtain ⟨z,its,n,r,hl,e⟩:=I.lstM hH
 obtain ⟨z2,its2,n2,r2,hl2,e2⟩:=I.lstM hB
 refine PySem.P.add_list e e2 ?_ (by rw [List.size_toArray,List.size_toArray]; exact Om.k196 hz hl hl2)
 have ea:its.toArray++its2.toArray=(its++its2).toArray:=by simp
 rw [ea]
 exact ⟨.ref _,_,I.lnew (t':=s.toks) (r.append r2) (by rw [List.length_append]; assumption),rfl,q _ I.fresh⟩
theorem ZfQ {α:Type} (xs:List α) (k:Nat):(List.replicate k xs).flatten.length=k*xs.length:=by
 induction k with
 | zero=>simp
 | succ k ih=>rw [List.replicate_succ,List.flatten_cons,List.length_append,ih,Nat.succ_mul,Nat.add_comm]
end
section
variable {prog:Program} {w:World} {A:Around} {E:Value->Shared->Prop} {s:Shared}
end
section
variable {X:Cx}
end
end L2
namespace Att
open PySem PySem.W PySem.Calls PyProof.Rows
theorem ZbC {P:Params} {h:Heap}:∀ (ns:List Int) (vs:List Value),WellAll P h vs (ns.map WData.int)->IntsAre vs ns:=by
 intro ns
 induction ns with
 | nil =>
  intro vs w
  rw [List.map_nil] at w
  cases w
  exact .nil
 | cons n ns ih =>
  intro vs w
  rw [List.map_cons] at w
  cases w with
  | cons a b =>
   cases a
   exact .cons _ _ (ih _ b)
theorem Zgo {l:OpenLaw} {n:Nat} (hn:l.most=some n) {P:Params} {h:Heap} {args:List WData} {vals:List Value}
  (hpre:l.row.toRowW.claim.pre args=true) (hwl:WellAll P h vals args) :
  ∃ a vs ns,vals=[Value.ref a]/\args=[WData.list (ns.map WData.int)]/\h.get? a=some { cls:=.type "list",data:=.seq vs.toArray }/\IntsAre vs ns/\ns.length<=n:=by
 have hsh:WShape.hasAll [] args [.list .int]=true:=(pre_splitW hpre).1
 have hc:l.pre.holds [] { args:=args }=true:=(pre_splitW hpre).2
 obtain ⟨d,r,rfl,h1,h2⟩:=hasAllW_cons hsh
 obtain rfl:=hasAllW_nil h2
 obtain ⟨xs,rfl,h3⟩:=hasW_list h1
 obtain ⟨ns,rfl⟩:=items_int h3
 have hlen:ns.length<=n:=by
  unfold OpenLaw.pre at hc
  have h4:(WTm.not (.lt (.lit (.int (n:Int))) (.len (.arg 0)))).holds [] { args:=[.list (ns.map .int)] }=true:=by
   have h4:=(holds_andW hc).1
   rw [hn] at h4
   exact h4
  have h5:=condW_of h4 (w_not (w_lt w_lit (w_len_list (w_arg rfl))))
  rw [List.length_map] at h5
  refine Nat.le_of_not_lt fun q=>?_
  have q':(n:Int)<((ns.length:Nat):Int):=by exact Om.c5 ‹_›
  first
   | (rw [decide_eq_true q'] at h5; exact absurd h5 (by decide))
   | (simp at h5; omega)
 cases hwl with
 | cons w1 w2 =>
  cases w2
  cases w1 with
  | list ho hall=>exact ⟨_,_,ns,rfl,rfl,ho,ZbC ns _ hall,hlen⟩
theorem Zgv (l:OpenLaw) (args:List WData):l.row.toRowW.claim.post args (.bool true) args=true :=
 postW_of (r:=l.row.toRowW) (X:=(true==true))
  (show WShape.has [] (.bool true) .bool=true by first | rfl | decide | simp [WShape.has,WShape.arms,WShape.armsAll])
  (show (WTm.eq .res (.lit (.bool true))).value [] { args:=args,res:=some (.bool true),after:=args }=some (.bool (true==true)) from w_eq_bool (w_res rfl) w_lit) rfl
theorem attach_call {l:OpenLaw} {n:Nat} {q:Program} {loose:List Str} {XP:(Str->Option Value)->Heap->Prop} {YP:World->Heap->Prop} {d:DefRec}
  (hn:l.most=some n) (hdf:d.params.defaults=[])
  (call:∀ (w:World) (s₀ s₁:Shared) (mg mb:Str->Option Value) (fa:Addr) (o:Obj) (pm cd doc:Value) (a:Addr) (vs:List Value) (ns:List Int),
   Ground q loose [] XP w s₀ mg mb s₁.heap->YP w s₁.heap ->
   s₁.heap.get? fa=some o->o.data = .func (docDef d.name d.params d.body d.scope pm cd doc)->s₁.heap.CodeRec cd d.name->mg d.name=some (.ref fa) ->
   s₁.heap.get? a=some { cls:=.type "list",data:=.seq vs.toArray }->IntsAre vs ns->ns.length<=n->s₁.gens = #[] ->
   codeAny (model l.prog w) callerA (.call (.ref fa) ⟨[.ref a],[]⟩) (fun r s'=>r = .ok (.ret (.bool true))/\OldK s₁.heap s'.heap/\s'.os=s₁.os/\AllBare s'.gens) s₁) :
  WalkO q loose XP YP l.row.toRowW d [] (fun f vs=>PySem.call f vs):=by
 intro w s₀ s₁ mg mb G Y fa o pm cd doc dV kV ho hd hcd hD hmg hg args vals as hpre hlay hrd hwl hlo
 obtain rfl:dV = .none:=Dflts.none hD hdf
 obtain rfl:kV = .none:=Dflts.noKw hD
 obtain ⟨a,vs,ns,rfl,rfl,hobj,hints,hlen⟩:=Zgo hn hpre hwl
 refine enter_call (codeAny_mono (call w s₀ s₁ mg mb fa o pm cd doc a vs ns G Y ho (fd_plain hd) hcd hmg hobj hints hlen hg) fun r s' hq=>?_)
 obtain ⟨rfl,h2,h3,h4⟩:=hq
 exact ⟨.inl ⟨.bool true,.bool true,[],rfl,fun _=>rfl,.bool true,Zgv l _,fun _=>⟨List.Pairwise.nil,fun _ hm=>(nomatch hm)⟩⟩,h2,h3,h4⟩
section
variable {prog:Program} {w:World} {A:Around} {E:Value->Shared->Prop} {s:Shared} {K:Frag}
end
end Att
namespace L2
open PySem PySem.Spec PyProof.Rows
theorem ZcJ:∀ {vs:List Value} {ns:List Int},IntsAre vs ns->Vals (ns.map V.int) vs
 | _,_,.nil=>.nil
 | _,_,.cons n t h=>.cons ⟨t,rfl⟩ (ZcJ h)
end L2
namespace L2
open PySem PySem.Spec PyProof.Rows
end L2
namespace L2
open PySem PySem.Spec PyProof.Rows
noncomputable def ZdH (s:Stmt) (j:Nat):Stmt:=match s with
 | .ClassDef _ _ _ body _ _ _ _ _ _ _=>body.getD j (.Pass ⟨0,0,0,0⟩)
 | _=>.Pass ⟨0,0,0,0⟩
noncomputable def Zr (s:Stmt):Arguments:=match s with
 | .FunctionDef _ a _ _ _ _ _ _ _ _=>a
 | _=>{ posonlyargs:=[],args:=[],vararg:=none,kwonlyargs:=[],kw_defaults:=[],kwarg:=none,defaults:=[] }
noncomputable def Zo (s:Stmt):List Stmt:=match s with
 | .FunctionDef _ _ b _ _ _ _ _ _ _=>b
 | _=>[]
noncomputable def Zf (s:Stmt):Scope:=match s with
 | .FunctionDef _ _ _ _ _ _ sc _ _ _=>sc
 | _=>{ kind:=.function,names:=[],isGenerator:=false,isCoroutine:=false }
noncomputable abbrev CX0:CXT:=fun _ _ _ _ _ _=>False
noncomputable abbrev E0:XK:=fun _ _ _=>False
theorem ZA {X:Cx}:Zam CX0 X E0:=fun _ _ _ _ _ _ _ h=>h.elim
structure Fun (K:PySem.W.Frag) (x qual:Str) (st:Stmt) (f:Addr) (fd:FuncData):Prop where
 ex:∃ (oc:Value) (od:Option Addr) (kV doc pm:Value) (an:Option Addr) (cdv ct:Value) (osl:Array (Option Value)),
  fd=PySem.W.fnOf x qual (Zr st) (Zo st) (Zf st) .none kV doc pm an cdv ct/\K.lookup f=some ⟨oc,od,.func fd,osl⟩/\PySem.W.codeIn K cdv qual=true
 kp:PySem.W.keepIn K (.ref f)=true
section
variable {P:Program} {w:World} {K:PySem.W.Frag} {mg:Str->Option Value} {base:Heap}
theorem Fun.ok {x qual:Str} {st:Stmt} {f:Addr} {fd:FuncData} {N ps:List Str} {k:Nat} {sp:Sp} (F:Fun K x qual st f fd) (S:Zt N ps (Zf st)) (len:∀ vs H Q E,sp vs H Q E->vs.length=ps.length)
  (hbody:∀ (cdv:Value) (A:Around) (outer:List Env) (s:Shared) (H:Hp) (vs:List V) (Q:VK) (E:XK),Room k (A.deeper (envOfC qual (Zf st) s.heap.objs.size f cdv))->sp vs H Q E ->
   ∃ t,PSs (Z9 CX0 P w K mg base N qual (Zf st) f cdv A outer s H E).nox (Zo st) t/\t { nx:=fun _ H'=>Q .non H',rt:=Q } (start N vs) H):FnOk P w K mg base CX0 (k+1) f fd ps sp:=by
 obtain ⟨oc,od,kV,doc,pm,an,cdv,ct,osl,rfl,lk,hcd⟩:=F.ex
 refine ZfV lk hcd S len fun A outer s H vs Q E hr hsp=>?_
 obtain ⟨t,h,q⟩:=hbody cdv A outer s H vs Q E hr hsp
 exact ⟨t,h.nox,q⟩
theorem Fun.binds {x qual:Str} {st:Stmt} {f:Addr} {fd:FuncData} {ps:List Str} (F:Fun K x qual st f fd)
  (h:∀ (kV doc pm:Value) (an:Option Addr) (cdv ct:Value) (us:List Value),us.length=ps.length->bindArgs (PySem.W.fnOf x qual (Zr st) (Zo st) (Zf st) .none kV doc pm an cdv ct) ⟨us,[]⟩=pure (ps.zip us)):Binds K fd ps []:=by
 obtain ⟨oc,od,kV,doc,pm,an,cdv,ct,osl,rfl,lk,hcd⟩:=F.ex
 exact .all (h kV doc pm an cdv ct)
theorem Zy {x qual:Str} {st:Stmt} {f:Addr} {oc:Value} {od an:Option Addr} {osl:Array (Option Value)} {kV doc pm cdv ct:Value} (l:K.lookup f=some ⟨oc,od,.func (PySem.W.fnOf x qual (Zr st) (Zo st) (Zf st) .none kV doc pm an cdv ct),osl⟩)
  (c:PySem.W.codeIn K cdv qual=true) (k:PySem.W.keepIn K (.ref f)=true):Fun K x qual st f (PySem.W.fnOf x qual (Zr st) (Zo st) (Zf st) .none kV doc pm an cdv ct):=⟨⟨oc,od,kV,doc,pm,an,cdv,ct,osl,rfl,l,c⟩,k⟩
end
theorem ZkT {A:Around} {k:Nat} (hr:Room k A):A.units+1<cLine:=Nat.lt_of_le_of_lt (Nat.add_le_add_left (by decide:1<=64) _) hr.units
theorem ZD {n:Nat} (h:n<=1000):n<sizeLine:=Nat.lt_of_le_of_lt h (by decide)
section
variable {X:Cx}
theorem pv (i:Nat) {x:Str} {pos:Pos} (hN:X.N[i]? = some x:=by rfl) (hv:Vis X.env.scope x:=by first | exact Or.inl rfl | exact Or.inr (Or.inl rfl) | exact Or.inr (Or.inr rfl)) (hd:(x==("__debug__" : Str))=false:=by decide)
  (hcd:(x==("__classdict__" : Str))=false:=by decide):PE X (.Name x pos) (Zkq i):=ZjV hN hv hd hcd
end
theorem Yx {A B:Prop} (h:B):if false=true then A else B:=by
 rw [if_neg Bool.false_ne_true]
 exact h
theorem Y5 {A B:Prop} (h:A):if true=true then A else B:=by
 rw [if_pos rfl]
 exact h
theorem YD {c A B:Prop} [Decidable c] (h1:c->A) (h2:¬ c->B):if c then A else B:=by
 by_cases h:c
 ·rw [if_pos h]
  exact h1 h
 ·rw [if_neg h]
  exact h2 h
noncomputable def Same (H H':Hp):Prop:=∀ b o,H b=some o->H' b=some o
theorem Same.refl (H:Hp):Same H H:=fun _ _ h=>h
theorem Same.trans {H H1 H2:Hp} (a:Same H H1) (b:Same H1 H2):Same H H2:=fun c o h=>b c o (a c o h)
theorem Same.free {H H':Hp} (e:Same H H') {l:Addr} (h:H' l=Option.none):H l=Option.none:=by
 cases q:H l with
 | none=>rfl
 | some o =>
  rw [e l o q] at h
  cases h
theorem Same.seq {K:PySem.W.Frag} {H H':Hp} {a:Addr} {xs:List V} (e:Same H H') (h:SqL K H a xs):SqL K H' a xs:=by
 rcases h with (h | ⟨o,h⟩) | h
 ·exact .inl (.inl (e _ _ h))
 ·exact .inl (.inr ⟨o,e _ _ h⟩)
 ·exact .inr h
end L2
namespace L2
open PySem PySem.Spec PyProof.Rows
theorem ZaV {α β:Type} {f:α->β->Sem (ForInStep β)} {g:α->β->β}:∀ (l:List α) (b:β),(∀ x∈l,∀ c,f x c=pure (.yield (g x c)))->forIn l b f=pure (l.foldl (fun c x=>g x c) b)
 | [],b,_=>rfl
 | x::l,b,h=>by
  rw [List.forIn_cons,h x List.mem_cons_self,pure_bind]
  exact ZaV l _ fun y hy=>h y (List.mem_cons_of_mem _ hy)
noncomputable def YM (cells:List (Str × Addr)) (x:Str × NameKind) (cs:List (Str × Addr)):List (Str × Addr) :=
 if (x.2==NameKind.free)=true then (x.1,(cells.lookup x.1).getD 0)::cs else cs
noncomputable def YB (cells:List (Str × Addr)) (names:List (Str × NameKind)) (cs:List (Str × Addr)):List (Str × Addr):=names.foldl (fun cs x=>YM cells x cs) cs
theorem Zax {scope:Scope} {env:Env} (h:∀ y∈scope.names,y.2 = .free->∃ c,env.cells.lookup y.1=some c):closureFor scope env=pure (YB env.cells scope.names []):=by
 simp only [closureFor]
 rw [ZaV (g:=fun x cs=>YM env.cells x cs) scope.names [] (fun x hx c=>by
  obtain ⟨n,kind⟩:=x
  cases hk:(kind==NameKind.free) with
  | false=>simp only [hk,YM,Bool.false_eq_true,if_false]
  | true =>
   obtain ⟨a,ha⟩:=h (n,kind) hx (by simpa using hk)
   have hc:cellOf env n=pure a:=by
    unfold cellOf
    have ha':env.cells.lookup n=some a:=ha
    rw [ha']
   have ha':env.cells.lookup n=some a:=ha
   simp only [hk,YM,if_true,hc,pure_bind,ha',Option.getD_some])]
 rfl
theorem Zcp {cells:List (Str × Addr)}:∀ (names:List (Str × NameKind)) (cs:List (Str × Addr)),(∀ y∈names,y.2 = .free->∃ c,cells.lookup y.1=some c) ->
  (∀ x c,cs.lookup x=some c->cells.lookup x=some c)->∀ x c,(YB cells names cs).lookup x=some c->cells.lookup x=some c
 | [],cs,_,h=>h
 | (n,k)::r,cs,hf,h=>by
  refine Zcp r (YM cells (n,k) cs) (fun y hy=>hf y (List.mem_cons_of_mem _ hy)) fun x c e=>?_
  unfold YM at e
  split at e
  ·rename_i hk
   obtain ⟨a,ha⟩:=hf (n,k) List.mem_cons_self (by simpa using hk)
   have ha':cells.lookup n=some a:=ha
   rw [List.lookup_cons] at e
   cases hx:(x==n) with
   | true =>
    simp only [hx,ha',Option.getD_some] at e
    have:x=n:=by simpa using hx
    rw [this,ha',e]
   | false =>
    simp only [hx] at e
    exact h x c e
  ·exact h x c e
theorem ZaF {cells:List (Str × Addr)}:∀ (names:List (Str × NameKind)) (cs:List (Str × Addr)) (x:Str),((∃ c,cs.lookup x=some c)\/(x,NameKind.free)∈names)->∃ c,(YB cells names cs).lookup x=some c
 | [],cs,x,h=>by
  rcases h with h | h
  ·exact h
  ·cases h
 | (n,k)::r,cs,x,h=>by
  refine ZaF r (YM cells (n,k) cs) x ?_
  rcases h with ⟨c,h⟩ | h
  ·left
   unfold YM
   split
   ·rw [List.lookup_cons]
    cases hx:(x==n) with
    | true=>exact ⟨_,rfl⟩
    | false=>exact ⟨c,h⟩
   ·exact ⟨c,h⟩
  ·rcases List.mem_cons.mp h with e | h
   ·left
    cases e
    unfold YM
    rw [if_pos (show ((n,NameKind.free).2==NameKind.free)=true from rfl),List.lookup_cons]
    simp
   ·exact .inr h
noncomputable def PTs (X:Cx) (ifs:List Expr) (t:TT):Prop :=
 ∀ (pins:List (Addr × Obj)) (s:Shared) (σ:St) (H:Hp) (Q:Bool->Hp->Prop),Inv X pins σ H s->t σ H Q ->
  wpAny (model X.prog X.w) X.A (forIn ifs true fun c r=>if r=true then do let ok <- isTrue c X.env (eval c X.env); pure (ForInStep.yield ok) else pure (ForInStep.yield r)) (TP X pins σ Q) X.xe s
noncomputable def Zk4:TT:=fun _ H Q=>Q true H
theorem YH {X:Cx}:PTs X [] Zk4:=fun pins s σ H Q I h=>wpAny_tests_nil ⟨H,I,h⟩
theorem YG {X:Cx} {c:Expr} {t:TT} (h:PT X c t):PTs X [c] t:=fun pins s σ H Q I q=>wpAny_tests_one (h pins s σ H Q I q)
noncomputable def Ye (X:Cx) (Nc:List Str) (scope:Scope) (cl:List (Str × Addr)) (C:Addr) (s₁:Shared) (H₁:Hp) (fp:List Addr):Cx where
 prog:=X.prog
 w:=X.w
 K:=X.K
 mg:=X.mg
 base:=X.base
 A:=X.A
 N:=Nc
 s₀:=s₁
 H₀:=H₁
 env:=compEnvC scope cl C X.env
 outer:=X.stack
 stack:=X.stack
 ex:=fp
 fn:=fun _=>false
 calm:=X.calm
 pn:=[]
 xe:=fun _ _=>False
noncomputable def capt (fm:List (Option Nat)) (σ:St):St:=fm.map fun o=>match o with
 | none=>none
 | some j=>(σ[j]?).join
structure Zkp (X:Cx) (Nc:List Str) (scope:Scope) (fm:List (Option Nat)):Prop where
 kind:scope.kind = .function
 nocell:∀ y∈scope.names,y.2 ≠ .cell
 names:∀ y∈scope.names,y.2 = .local->scope.names.lookup y.1=some .local
 free:∀ y∈scope.names,y.2 = .free->X.env.kindOf y.1=some .cell\/X.env.kindOf y.1=some .free
 len:fm.length=Nc.length
 at_:∀ (p:Option Nat × Str),p∈fm.zip Nc->∀ j,p.1=some j->X.N[j]? = some p.2/\(p.2,NameKind.free)∈scope.names/\scope.names.lookup p.2=some .free
noncomputable def captOk (N:List Str) (sc:Scope) (Nc:List Str) (scope:Scope) (fm:List (Option Nat)):Bool :=
 decide (scope.kind = .function)&&scope.names.all (fun y=>decide (y.2 ≠ .cell)&&(decide (y.2 ≠ .local)||decide (scope.names.lookup y.1=some .local)) &&
  (decide (y.2 ≠ .free)||(decide (sc.names.lookup y.1=some .cell)||decide (sc.names.lookup y.1=some .free))))&&decide (fm.length=Nc.length) &&
  (fm.zip Nc).all (fun p=>match p.1 with
   | none=>true
   | some j=>decide (N[j]? = some p.2)&&decide ((p.2,NameKind.free)∈scope.names)&&decide (scope.names.lookup p.2=some .free))
theorem captOk.capt {X:Cx} {Nc:List Str} {scope:Scope} {fm:List (Option Nat)} (h:captOk X.N X.env.scope Nc scope fm=true):Zkp X Nc scope fm:=by
 unfold captOk at h
 rw [Bool.and_eq_true,Bool.and_eq_true,Bool.and_eq_true] at h
 obtain ⟨⟨⟨h1,h2⟩,h3⟩,h4⟩:=h
 rw [List.all_eq_true] at h2 h4
 have g:∀ y∈scope.names,(y.2 ≠ .cell/\(y.2 ≠ .local\/scope.names.lookup y.1=some .local))/\(y.2 ≠ .free\/(X.env.scope.names.lookup y.1=some .cell\/X.env.scope.names.lookup y.1=some .free)):=fun y hy=>by
  have:=h2 y hy
  simpa only [Bool.and_eq_true,Bool.or_eq_true,decide_eq_true_eq] using this
 refine ⟨of_decide_eq_true h1,fun y hy=>(g y hy).1.1,fun y hy e=>?_,fun y hy e=>?_,of_decide_eq_true h3,fun p hp j e=>?_⟩
 ·rcases (g y hy).1.2 with z | z
  ·exact absurd e z
  ·exact z
 ·rcases (g y hy).2 with z | z
  ·exact absurd e z
  ·exact z
 ·have:=h4 p hp
  obtain ⟨a,b⟩:=p
  cases e
  simp only [Bool.and_eq_true,decide_eq_true_eq] at this
  exact ⟨this.1.1,this.1.2,this.2⟩
theorem Y9 {env:Env}:∀ {names:List (Str × NameKind)} {x:Str}, names.lookup x=some .free ->
    ((names.map fun (n, k) => if (k==NameKind.free&&env.scope.kind == .function&&env.kindOf n==some .cell) then (n, NameKind.cell) else (n, k)).lookup x=some .cell \/
     (names.map fun (n, k) => if (k==NameKind.free&&env.scope.kind == .function&&env.kindOf n==some .cell) then (n, NameKind.cell) else (n, k)).lookup x=some .free)
  | [], _, h => by simp at h
  | (n, k)::r, x, h => by
    have ih := @Y9 env r x
    rw [List.map_cons]
    cases hx:x==n with
    | true =>
      simp only [List.lookup_cons, hx] at h
      cases h
      dsimp only
      split
      · left
        simp only [List.lookup_cons, hx]
      · right
        simp only [List.lookup_cons, hx]
    | false =>
      simp only [List.lookup_cons, hx] at h
      dsimp only
      split
      · simp only [List.lookup_cons, hx]
        exact ih h
      · simp only [List.lookup_cons, hx]
        exact ih h
theorem JU {env:Env}:∀ {names:List (Str × NameKind)} {x:Str}, (∀ y∈names, y.2 ≠ .cell) ->
    ((names.map fun (n, k) => if (k==NameKind.free&&env.scope.kind == .function&&env.kindOf n==some .cell) then (n, NameKind.cell) else (n, k)).lookup x=some .cell \/
     (names.map fun (n, k) => if (k==NameKind.free&&env.scope.kind == .function&&env.kindOf n==some .cell) then (n, NameKind.cell) else (n, k)).lookup x=some .free)->(x, NameKind.free)∈names
  | [], _, _, h => by simp at h
  | (n, k)::r, x, hc, h => by
    have ih := @JU env r x (fun y hy => hc y (List.mem_cons_of_mem _ hy))
    rw [List.map_cons] at h
    cases hx:x==n with
    | true =>
      have hxn:x=n := by simpa using hx
      dsimp only at h
      split at h
      · rename_i hk
        rw [Bool.and_eq_true, Bool.and_eq_true] at hk
        have:k = .free := by simpa using hk.1.1
        rw [hxn, this]
        exact List.mem_cons_self
      · simp only [List.lookup_cons, hx] at h
        rcases h with h | h
        · cases h
          exact absurd rfl (hc (n, .cell) List.mem_cons_self)
        · cases h
          rw [hxn]
          exact List.mem_cons_self
    | false =>
      dsimp only at h
      split at h
      · simp only [List.lookup_cons, hx] at h
        exact List.mem_cons_of_mem _ (ih h)
      · simp only [List.lookup_cons, hx] at h
        exact List.mem_cons_of_mem _ (ih h)
noncomputable def Zjs (fm:List (Option Nat)) (wi:TI) (g:TG) (tt:TT) (te:TE):TE := fun σ H Q => wi σ H fun J H1 => ∀ l, H1 l=none ->
  ∃ W:Nat->Nat->List V->St->Hp->Prop, (∃ m, W 0 m [] (capt fm σ) (upd H1 l (.lst []))) /\
    ∀ i m ys σ' H', W i m ys σ' H'->H' l=some (.lst ys) /\
      ((J.stop i H'/\Q (.ref l) H') \/
       (J.go i H'/\∃ N:List V->St->Hp->Prop, (∀ zs σ2 H2, N zs σ2 H2->∃ m', m'<m/\W (i+1) m' zs σ2 H2)/\∀ x H2, J.yld i H' x H2->g x σ' H2 fun σ3 H3 => tt σ3 H3 fun b H4 =>
          if b=true then te σ3 H4 fun y H5 => H5 l=some (.lst ys)/\ys.length<sizeLine/\N (ys++[y]) σ3 (upd H5 l (.lst (ys++[y])))
          else N ys σ3 H4))
section
variable {prog:Program} {w:World} {A:Around} {R:Result->Shared->Prop} {s:Shared}
noncomputable abbrev NoX:Value->Shared->Prop:=fun _ _=>False
theorem Zfs {elt target iter:Expr} {ifs:List Expr} {scope:Scope} {pos:Pos} {it acc:Value} {env:Env} (I:Nat->Shared->Prop)
  (turn:∀ n s,I n s->wpAny (model prog w) A (pyNext it) (fun r s₁=>match r with
   | none=>R (.ok .next) s₁
   | some v=>wpAny (model prog w) A (letOwnedTupleGo target it v) (fun _ s₁'=>wpAny (model prog w) A (assign target env v) (fun _ s₂ =>
     wpAny (model prog w) A (forIn ifs true fun c r=>if r=true then do let ok <- isTrue c env (eval c env); pure (ForInStep.yield ok) else pure (ForInStep.yield r)) (fun ok s₃ =>
      if ok=true then wpAny (model prog w) A (eval elt env) (fun x s₄ =>
       wpAny (model prog w) A (call (.builtin "list.append") [acc,x]) (fun _ s₅=>∃ m,m<n/\I m s₅) NoX s₄) NoX s₃
      else ∃ m,m<n/\I m s₃) NoX s₂) NoX s₁') NoX s₁) NoX s)
  (n:Nat) (h:I n s) :
  codeAny (model prog w) A (.compLoop (.ListComp elt [⟨target,iter,ifs,0⟩] scope pos) 0 it acc env) R s:=by
 refine codeAny_loop rfl I (fun n s hI=>?_) n h
 show wpAny _ A ((compTurn (.ListComp elt [⟨target,iter,ifs,0⟩] scope pos) 0 it acc env).onRaise (fun x=>do noteFrame x env; theTreesLotGoes x)) _ _ s
 refine wpAny_noted ?_
 rw [compTurn_list]
 refine wpAny_bind (wpAny_standAt (wpAny_bind (wpAny_mono (turn n s hI) (fun r s₁ h₁=>?_) fun _ _ f=>f.elim)))
 cases r with
 | none=>exact wpAny_pure h₁
 | some v =>
  refine wpAny_bind (wpAny_mono h₁ (fun _ s₁' h₁'=>?_) fun _ _ f=>f.elim)
  refine wpAny_bind (wpAny_mono h₁' (fun _ s₂ h₂=>wpAny_bind (wpAny_mono h₂ (fun ok s₃ h₃=>?_) fun _ _ f=>f.elim)) fun _ _ f=>f.elim)
  cases ok with
  | false=>exact wpAny_pure ⟨rfl,h₃⟩
  | true =>
   exact wpAny_bind (wpAny_bind (wpAny_mono h₃ (fun x s₄ h₄=>wpAny_bind (wpAny_mono h₄ (fun _ s₅ h₅=>wpAny_pure (wpAny_pure ⟨rfl,h₅⟩)) fun _ _ f=>f.elim)) fun _ _ f=>f.elim))
end
section
variable {X:Cx} {pins:List (Addr × Obj)} {σ:St} {H₁:Hp} {s₁:Shared}
theorem Zin {Nc:List Str} {scope:Scope} {fm:List (Option Nat)} {fp:List Addr} {h₁:Heap} {tk:Nat} {m:Str->Option Value} (c:Zkp X Nc scope fm) (I:Inv X pins σ H₁ s₁) (hf:∀ b∈fp,ZcH X pins H₁ b) (hfp:∀ b∈fp,b<s₁.heap.objs.size)
  (old:∀ b o,s₁.heap.get? b=some o->h₁.get? b=some o) (hD:h₁.get? s₁.heap.objs.size=some { cls:=.type "list",data:=.seq ([]:List Value).toArray }) (hns:h₁.Ns (s₁.heap.objs.size+1) m) :
  Inv (Ye X Nc scope (YB X.env.cells scope.names []) (s₁.heap.objs.size+1) s₁ H₁ fp) [] (capt fm σ) (upd H₁ s₁.heap.objs.size (.lst [])) { s₁ with heap:=h₁,toks:=tk }:=by
 have hfree:∀ y∈scope.names,y.2 = .free->∃ a,X.env.cells.lookup y.1=some a:=fun y hy e=>I.ok.has y.1 (c.free y hy e)
 have sub:∀ x a,(YB X.env.cells scope.names []).lookup x=some a->X.env.cells.lookup x=some a:=Zcp _ _ hfree (fun x a e=>by simp at e)
 have lt:∀ x a,X.env.cells.lookup x=some a->a<s₁.heap.objs.size:=fun x a e=>(I.cell x a e).elim fun v q=>q.lt
 have hDn:H₁ s₁.heap.objs.size=none:=I.hok.fresh (Nat.le_refl _)
 have hCn:H₁ (s₁.heap.objs.size+1)=none:=I.hok.fresh (Nat.le_succ _)
 refine ⟨⟨I.ok.mod,c.kind,I.ok.glob,I.ok.blt,Nat.le_succ _,fun x y a e1 e2=>I.ok.inj x y a (sub x a e1) (sub y a e2),fun x hx=>?_,fun x a z=>absurd z (by intro q; cases q),I.ok.hd,I.ok.frames,.inl rfl,fun b hb=>?_,I.bs,Nat.le_trans I.ok.bsz I.sz,fun b o e hb=>?_,fun b hb hfs=>?_,I.stack,I.stkFree⟩,
  rfl,I.bare,Un.laid old (Nat.le_refl _) hDn,⟨m,hns,fun i x v e1 e2 e3=>?_⟩,fun x a e=>?_,?_,fun x a e=>?_,fun p hp=>absurd (show p∈([]:List (Addr × Obj)) from hp) (by simp),?_,?_⟩
 ·exact ZaF _ _ x (.inr (JU (env:=X.env) c.nocell hx))
 ·exact ⟨Nat.ne_of_lt (Nat.lt_succ_of_lt (hfp b hb)),fun x a e=>(hf b hb).2.2.2.2.1 x a (sub x a e)⟩
 ·rcases (hf b hb).2.2.2.1 with z | z
  ·exact I.ok.noex b o e z
  ·exact absurd (Nat.lt_of_lt_of_le (Heap.lt_size e) (Nat.le_trans I.ok.bsz z)) (Nat.lt_irrefl _)
 ·rcases List.mem_cons.mp (I.stkSub b hfs) with z | z
  ·exact (hf b hb).2.1 z
  ·exact (hf b hb).2.2.1 z
 ·-- the names taken over
  have hz:∃ j,fm[i]? = some (some j)/\σ[j]? = some (some v):=by
   unfold capt at e2
   rw [List.getElem?_map] at e2
   cases q:fm[i]? with
   | none=>rw [q] at e2; cases e2
   | some o =>
    rw [q] at e2
    cases o with
    | none=>cases e2
    | some j =>
     refine ⟨j,rfl,?_⟩
     have e2':(σ[j]?).join=some v:=Option.some.inj e2
     cases q2:σ[j]? with
     | none=>rw [q2] at e2'; cases e2'
     | some u=>rw [q2] at e2'; cases u with
      | none=>cases e2'
      | some u=>cases e2'; rfl
  obtain ⟨j,hfm,hσ⟩:=hz
  have hp:((some j:Option Nat),x)∈fm.zip Nc:=by
   have:(fm.zip Nc)[i]? = some (some j,x):=by rw [List.getElem?_zip_eq_some]; exact ⟨hfm,e1⟩
   exact List.mem_of_getElem? this
  obtain ⟨hN,hmem,hlk⟩:=c.at_ _ hp j rfl
  have hk:=c.free _ hmem rfl
  obtain ⟨m0,hn0,hl0⟩:=I.loc
  have hvis:Vis X.env.scope x:=hk.elim (fun z=>.inr (.inl z)) (fun z=>.inr (.inr z))
  obtain ⟨u,ru,lk⟩:=hl0 j x v hN hσ hvis
  refine ⟨u,ru,.inr ⟨Y9 (env:=X.env) hlk,?_⟩⟩
  rcases lk with ⟨z,_⟩ | ⟨_,a,ea,o,ho,hd⟩
  ·rcases hk with q | q
   ·rw [show X.env.kindOf x=_ from q] at z; cases z
   ·rw [show X.env.kindOf x=_ from q] at z; cases z
  ·obtain ⟨a',ea'⟩:=ZaF (cells:=X.env.cells) scope.names [] x (.inr hmem)
   have:=sub x a' ea'
   rw [ea] at this
   cases this
   exact ⟨a,ea',o,old a o ho,hd⟩
 ·obtain ⟨v,o,ho,hd⟩:=I.cell x a (sub x a e)
  exact ⟨v,o,old a o ho,hd⟩
 ·show upd H₁ s₁.heap.objs.size (.lst []) (s₁.heap.objs.size+1)=none
  rw [Zh (Nat.succ_ne_self _)]
  exact hCn
 ·show upd H₁ s₁.heap.objs.size (.lst []) a=none
  rw [Zh (Nat.ne_of_lt (lt x a (sub x a e)))]
  exact I.freeC x a (sub x a e)
 ·exact I.hok.laid old (Nat.le_refl _) ⟨Nat.zero_le _,[],0,.nil,hD⟩
 ·show (capt fm σ).length=Nc.length
  unfold capt
  rw [List.length_map]
  exact c.len
theorem Zc4 {Nc:List Str} {scope:Scope} {cl:List (Str × Addr)} {C:Addr} {fp:List Addr} {σ':St} {H':Hp} {s':Shared} (I:Inv X pins σ H₁ s₁) (hf:∀ b∈fp,ZcH X pins H₁ b) (J:Inv (Ye X Nc scope cl C s₁ H₁ fp) [] σ' H' s') :
  Inv X pins σ H' s':=I.call' (ch:=fp) J.os J.base J.hok J.bare fun b hb=>⟨(hf b hb).2.2.2.1,(hf b hb).2.1,(hf b hb).2.2.2.2.1,(hf b hb).2.2.2.2.2⟩
theorem Zf6 {Nc:List Str} {scope:Scope} {cl:List (Str × Addr)} {fp:List Addr} {σ':St} {H':Hp} {s':Shared} {σ2:St} {s2:Shared} {h'':Heap} (I:Inv X pins σ H₁ s₁) (J:Inv (Ye X Nc scope cl (s₁.heap.objs.size+1) s₁ H₁ fp) [] σ' H' s')
  (I2:Inv X pins σ2 H' s2) (sb:Heap.SameBut (s₁.heap.objs.size+1) s2.heap h''):Inv X pins σ2 H' { s2 with heap:=h'' }:=by
 have hle:s₁.heap.objs.size<=s₁.heap.objs.size+1:=Nat.le_succ _
 refine I2.turned (t':=s2.toks) (it:=s₁.heap.objs.size+1) (fun b o hb e=>(sb.2 b hb).trans e) J.free (Nat.ne_of_gt (Nat.lt_of_lt_of_le I.lt hle)) (.inr (Nat.le_trans I.sz hle)) (fun x c e z=>?_) (fun p hp z=>?_)
 ·obtain ⟨v,q⟩:=I.cell x c e
  exact absurd (Nat.lt_of_lt_of_le q.lt (by rw [z]; exact hle)) (Nat.lt_irrefl _)
 ·exact absurd (Nat.lt_of_lt_of_le (Heap.lt_size (I.pin p hp).1) (by rw [z]; exact hle)) (Nat.lt_irrefl _)
theorem Zcn {elt tg iter:Expr} {ifs:List Expr} {scope:Scope} {pos:Pos} {Nc:List Str} {fm:List (Option Nat)} {g:TG} {tt:TT} {te:TE} {it:Addr} {fp:List Addr} {tn:Nat->Heap->Prop} {J:It} {Q:VK} {E:Value->Shared->Prop} {RR:Value->Addr->Result->Shared->Prop}
    (hc:X.calm=true) (c:Zkp X Nc scope fm) (I:Inv X pins σ H₁ s₁) (T:Zis X.prog X.w X.K tg J fp it tn) (st:tn 0 s₁.heap) (hf:∀ b∈fp, ZcH X pins H₁ b)
    (hg:∀ cl C s₁ H₁ fp, PG (Ye X Nc scope cl C s₁ H₁ fp) tg g) (ht:∀ cl C s₁ H₁ fp, PTs (Ye X Nc scope cl C s₁ H₁ fp) ifs tt) (he:∀ cl C s₁ H₁ fp, PE (Ye X Nc scope cl C s₁ H₁ fp) elt te)
    (h:∀ l, H₁ l=none->∃ W:Nat->Nat->List V->St->Hp->Prop, (∃ m, W 0 m [] (capt fm σ) (upd H₁ l (.lst []))) /\
      ∀ i m ys σ' H', W i m ys σ' H'->H' l=some (.lst ys) /\
        ((J.stop i H'/\Q (.ref l) H') \/
         (J.go i H'/\∃ N:List V->St->Hp->Prop, (∀ zs σ2 H2, N zs σ2 H2->∃ m', m'<m/\W (i+1) m' zs σ2 H2)/\∀ x H2, J.yld i H' x H2->g x σ' H2 fun σ3 H3 => tt σ3 H3 fun b H4 =>
            if b=true then te σ3 H4 fun y H5 => H5 l=some (.lst ys)/\ys.length<sizeLine/\N (ys++[y]) σ3 (upd H5 l (.lst (ys++[y])))
            else N ys σ3 H4)))
    (fin:∀ σ' H' s', Inv (Ye X Nc scope (YB X.env.cells scope.names []) (s₁.heap.objs.size+1) s₁ H₁ fp) [] σ' H' s'->Q (.ref s₁.heap.objs.size) H'->RR (.ref s₁.heap.objs.size) (s₁.heap.objs.size+1) (.ok .next) s') :
    wpAny (model X.prog X.w) X.A (newList []) (fun acc s₃ => wpAny (model X.prog X.w) X.A (newFunctionEnv scope X.env.globals (YB X.env.cells scope.names []) [] X.env.qual none .none (some X.env)) (fun cenv s₄ =>
      codeAny (model X.prog X.w) X.A (.compStart (.ListComp elt [⟨tg, iter, ifs, 0⟩] scope pos) 0 (.ref it) acc { cenv with scope := relabel scope X.env }) (RR acc cenv.locals) s₄) E s₃) E s₁ := by
  have hfp:∀ b∈fp, b<s₁.heap.objs.size := fun b hb => by
    obtain ⟨o, ho, _⟩ := T.obj 0 _ st b hb
    exact Heap.lt_size ho
  refine wpAny_newObj_type (wpAny_newFunctionEnv c.nocell (by intro y hy; simp at hy) (fun h₁ hns₁ hsb₁ => ?_) c.kind)
  dsimp only at hns₁ hsb₁ ⊢
  generalize hH2:s₁.heap.push { cls := .type "list", dict := none, data := .seq ([]:List Value).toArray }=H2 at hns₁ hsb₁ ⊢
  have hC:H2.objs.size=s₁.heap.objs.size+1 := by rw [<- hH2, Heap.size_push]
  rw [hC] at hns₁ hsb₁
  show codeAny _ _ (.compStart _ 0 _ _ (compEnvC scope (YB X.env.cells scope.names []) H2.objs.size X.env)) (RR _ H2.objs.size) _
  rw [hC]
  have old:∀ b o, s₁.heap.get? b=some o->h₁.get? b=some o := fun b o e => hsb₁.extBut b o (Nat.ne_of_lt (Nat.lt_succ_of_lt (Heap.lt_size e))) (Heap.get?_push_of_some _ (hH2 ▸ Heap.get?_push_of_some _ e))
  have hD:h₁.get? s₁.heap.objs.size=some { cls := .type "list", data := .seq ([]:List Value).toArray } := hsb₁.extBut _ _ (Nat.ne_of_lt (Nat.lt_succ_self _)) (Heap.get?_push_of_some _ (hH2 ▸ Heap.get?_push_size _ rfl))
  have st1:tn 0 h₁ := T.keep _ _ _ st fun b _ o e => old b o e
  have hDn:H₁ s₁.heap.objs.size=none := I.hok.fresh (Nat.le_refl _)
  obtain ⟨W, ⟨m0, w0⟩, turn⟩ := h _ hDn
  have loop:∀ tk:Nat, codeAny (model X.prog X.w) X.A (.compLoop (.ListComp elt [⟨tg, iter, ifs, 0⟩] scope pos) 0 (.ref it) (.ref s₁.heap.objs.size) (compEnvC scope (YB X.env.cells scope.names []) (s₁.heap.objs.size+1) X.env))
      (RR (.ref s₁.heap.objs.size) (s₁.heap.objs.size+1)) { s₁ with heap := h₁, toks := tk } := by
    intro tk
    have I0 := Zin (tk := tk) c I hf hfp old hD hns₁
    have stat:∀ {H':Hp}, (∀ b∈fp, H' b=none)->∀ b∈fp, ZcH (Ye X Nc scope (YB X.env.cells scope.names []) (s₁.heap.objs.size+1) s₁ H₁ fp) [] H' b := fun hn b hb =>
      ⟨hn b hb, (I0.ok.exf b hb).1, I0.ok.exfs b hb, .inl hb, (I0.ok.exf b hb).2, fun p hp => absurd (show p∈([]:List (Addr × Obj)) from hp) (by simp)⟩
    refine Zfs (fun n s' => ∃ i ys σ' H', Inv (Ye X Nc scope (YB X.env.cells scope.names []) (s₁.heap.objs.size+1) s₁ H₁ fp) [] σ' H' s'/\tn i s'.heap/\(∀ b∈fp, H' b=none)/\W i n ys σ' H') ?_ m0
      ⟨0, [], _, _, I0, st1, fun b hb => by rw [Zh (Nat.ne_of_lt (hfp b hb))]; exact (hf b hb).1, w0⟩
    rintro n s3 ⟨i, ys, σ3, H3, I3, st3, fr3, w3⟩
    obtain ⟨hl, alt⟩ := turn i n ys σ3 H3 w3
    rcases alt with ⟨stop, qn⟩ | ⟨go, N, hN, step⟩
    · refine thn (T.done (Ye X Nc scope (YB X.env.cells scope.names []) (s₁.heap.objs.size+1) s₁ H₁ fp) rfl rfl rfl hc i [] s3 σ3 H3 NoX I3 (stat fr3) st3 stop) fun r s4 zz0 => ?_
      obtain ⟨hr, I4⟩ := zz0
      subst hr
      exact fin σ3 H3 s4 I4 qn
    · refine thn (T.item (Ye X Nc scope (YB X.env.cells scope.names []) (s₁.heap.objs.size+1) s₁ H₁ fp) rfl rfl rfl hc i [] s3 σ3 H3 NoX I3 (stat fr3) st3 go) fun r s4 zz0 => ?_
      obtain ⟨u, hr, h4⟩ := zz0
      subst hr
      refine thn h4 fun _ s5 zz0 => ?_
      obtain ⟨x, H5, I5, r5, y5, st5, fr5⟩ := zz0
      have I5' := I5.pinned (stat fr5) (T.obj _ _ st5)
      have again:∀ {σ7:St} {H7:Hp} {s7:Shared} {zs:List V} {m':Nat}, Inv (Ye X Nc scope (YB X.env.cells scope.names []) (s₁.heap.objs.size+1) s₁ H₁ fp) ([]++Zb3 fp s5.heap) σ7 H7 s7->m'<n->W (i+1) m' zs σ7 H7 ->
          ∃ m, m<n/\∃ i ys σ' H', Inv (Ye X Nc scope (YB X.env.cells scope.names []) (s₁.heap.objs.size+1) s₁ H₁ fp) [] σ' H' s7/\tn i s7.heap/\(∀ b∈fp, H' b=none)/\W i m ys σ' H' := fun {σ7 H7 s7 zs m'} I7 hm w7 => by
        refine ⟨m', hm, i+1, zs, σ7, H7, I7.unpinned, T.keep _ _ _ st5 fun b hb o e => (I7.pin (b, o) (List.mem_append_right _ (List.mem_append_right _ (JM hb e)))).1, fun b hb => ?_, w7⟩
        obtain ⟨o, e, d⟩ := T.obj _ _ st5 b hb
        exact (I7.pin (b, o) (List.mem_append_right _ (List.mem_append_right _ (JM hb e)))).2.1
      refine thn (hg _ _ _ _ _ _ s5 σ3 H5 x u _ I5' r5 (step x H5 y5)) fun _ s6 zz0 => ?_
      obtain ⟨σ6, H6, I6, q6⟩ := zz0
      refine thn (ht _ _ _ _ _ _ s6 σ6 H6 _ I6 q6) fun ok s7 zz0 => ?_
      obtain ⟨H7, I7, q7⟩ := zz0
      cases ok with
      | false =>
        rw [if_neg Bool.false_ne_true] at q7 ⊢
        obtain ⟨m', hm, w7⟩ := hN _ _ _ q7
        exact again I7 hm w7
      | true =>
        rw [if_pos rfl] at q7 ⊢
        refine thn (he _ _ _ _ _ _ s7 σ6 H7 _ I7 q7) fun y s8 zz0 => ?_
        obtain ⟨v8, H8, I8, r8, hl8, hz8, n8⟩ := zz0
        obtain ⟨m', hm, w8⟩ := hN _ _ _ n8
        refine thn (Z5 _ s8 σ6 H8 (.ref s₁.heap.objs.size) [v8] (.ref s₁.heap.objs.size) [y] (fun v H' => H'=upd H8 s₁.heap.objs.size (.lst (ys++[v8]))) I8 rfl (.cons r8 .nil) ⟨_, ys, v8, rfl, rfl, hl8, hz8, rfl⟩) fun _ s9 zz0 => ?_
        obtain ⟨_, H9, I9, _, e9⟩ := zz0
        subst e9
        exact again I9 hm w8
  exact codeAny_compStart_list (loop _) (T.self _ 0 _ _ _ st1 (loop _))
end
section
variable {X:Cx} {elt tg iter:Expr} {ifs:List Expr} {scope:Scope} {pos spos:Pos} {wi:TI} {g:TG} {tt:TT} {te:TE}
theorem Y7 (Nc:List Str) (fm:List (Option Nat)) (hc:X.calm=true) (hk:captOk X.N X.env.scope Nc scope fm=true) (hi:PI X tg iter wi)
  (hg:∀ cl C s₁ H₁ fp,PG (Ye X Nc scope cl C s₁ H₁ fp) tg g) (ht:∀ cl C s₁ H₁ fp,PTs (Ye X Nc scope cl C s₁ H₁ fp) ifs tt) (he:∀ cl C s₁ H₁ fp,PE (Ye X Nc scope cl C s₁ H₁ fp) elt te)
  (hs:∀ x,foldedSetIterable iter X.env x=pure x:=by intro _; rfl):PE X (.ListComp elt [⟨tg,iter,ifs,0⟩] scope pos) (Zjs fm wi g tt te):=by
 intro pins s σ H Q I h
 have c:=captOk.capt hk
 rw [eval_ListComp]
 refine wpAny_comprehension_free (use:=none) rfl hs (Zax fun y hy e=>I.ok.has y.1 (c.free y hy e)) c.kind c.names (thn (hi pins s σ H _ I h) fun v s1 h1=>thn h1 fun itv s2 h2=>?_)
 obtain ⟨it,fp,tn,J,H2,e,I2,T,st2,f2,h⟩:=h2
 subst e
 refine Zcn (RR:=fun acc C=>compPost (model X.prog X.w) X.A X.xe none (EP X pins σ Q) acc C) hc c I2 T st2 f2 hg ht he h fun σ' H' s' J' q=>?_
 obtain ⟨m,hn,_⟩:=J'.loc
 exact ⟨m,hn,fun h'' sb=>⟨.ref s2.heap.objs.size,H',Zf6 I2 J' (Zc4 I2 f2 J') sb,rfl,q⟩⟩
theorem ZcP {i:Nat} {x:Str} {px:Pos} (Nc:List Str) (fm:List (Option Nat)) (hN:X.N.Nodup) (hi':X.N[i]? = some x) (hx:Loc X.env.scope x) (hc:X.calm=true) (hk:captOk X.N X.env.scope Nc scope fm=true) (hi:PI X tg iter wi)
  (hg:∀ cl C s₁ H₁ fp,PG (Ye X Nc scope cl C s₁ H₁ fp) tg g) (ht:∀ cl C s₁ H₁ fp,PTs (Ye X Nc scope cl C s₁ H₁ fp) ifs tt) (he:∀ cl C s₁ H₁ fp,PE (Ye X Nc scope cl C s₁ H₁ fp) elt te)
  (hsw:swapsWith (.ListComp elt [⟨tg,iter,ifs,0⟩] scope pos) (some (.Name x px)) spos.line X.env=pure true:=by rfl)
  (hs:∀ x,foldedSetIterable iter X.env x=pure x:=by intro _; rfl) (hf:X.fn x=true\/X.env.scope.names.lookup x=some .local:=by first | exact .inl rfl | exact .inr rfl | assumption) :
  PS X (.Assign [.Name x px] (.ListComp elt [⟨tg,iter,ifs,0⟩] scope pos) spos) (ZjJ (Zjs fm wi g tt te) (ZaU i)):=by
 intro pins s σ H D I h
 have c:=captOk.capt hk
 rw [exec_Assign_Name_used _ _ _ _ hsw]
 refine wpAny_bind (wpAny_standAt (wpAny_bind ?_))
 show wpAny _ X.A (do let _ <- comprehension (.ListComp elt [⟨tg,iter,ifs,0⟩] scope pos) scope X.env _ (newList []) false (eval iter X.env) (some (assign (.Name x px) X.env))) _ _ s
 refine wpAny_bind (wpAny_mono (wpAny_comprehension_free (use:=some (assign (.Name x px) X.env)) (Q:=fun _ s'=>SP X pins D .next s') rfl hs (Zax fun y hy e=>I.ok.has y.1 (c.free y hy e)) c.kind c.names
  (thn (hi pins s σ H _ I h) fun v s1 h1=>thn h1 fun itv s2 h2=>?_)) (fun _ s' hq=>wpAny_pure (wpAny_pure hq)) fun _ _ e=>e)
 obtain ⟨it,fp,tn,J,H2,e,I2,T,st2,f2,h⟩:=h2
 subst e
 refine Zcn (Q:=fun v H'=>ZaU i v σ H' D.nx) (RR:=fun acc C=>compPost (model X.prog X.w) X.A X.xe (some (assign (.Name x px) X.env)) (fun _ s'=>SP X pins D .next s') acc C) hc c I2 T st2 f2 hg ht he h fun σ' H' s' J' q=>?_
 obtain ⟨m,hn,_⟩:=J'.loc
 have IB:=Zc4 I2 f2 J'
 show wpAny _ X.A (assign (.Name x px) X.env _) _ _ _
 refine wpAny_assign_Name (ZcK (v:=.ref s2.heap.objs.size) IB hN hi' hx rfl (fun s'' I'' zz0=>?_) hf)
 obtain ⟨a,sa,ha⟩:=zz0
 have hle:s2.heap.objs.size<=s2.heap.objs.size+1:=Nat.le_succ _
 have hne:s2.heap.objs.size+1≠a:=by
  rcases ha with rfl | ha
  ·exact Nat.ne_of_gt (Nat.lt_of_lt_of_le I2.lt hle)
  ·obtain ⟨v,q⟩:=I2.cell x a ha
   exact Nat.ne_of_gt (Nat.lt_of_lt_of_le q.lt hle)
 exact ⟨m,hn.sameBut sa hne,fun h'' sb=>⟨_,H',Zf6 I2 J' I'' sb,q⟩⟩
end
end L2
namespace L2
open PySem PySem.Spec PyProof.Rows
section
variable {X:Cx}
theorem ZT (K:PySem.W.Frag) (h:X.K=K:=by rfl):IxR X (ZkK K):=by subst h; exact ZI
theorem Zce (K:PySem.W.Frag) (h:X.K=K:=by rfl):IxR X (ZkL K):=by subst h; exact YK
theorem ZdA (K:PySem.W.Frag) (h:X.K=K:=by rfl):OpR X (compareOp .In) (rIn K false):=by subst h; exact Zgy
theorem Yt (K:PySem.W.Frag) (h:X.K=K:=by rfl):OpR X (compareOp .NotIn) (rIn K true):=by subst h; exact Zdz
noncomputable def Zlk (K:PySem.W.Frag):List V->Hp->VK->Prop:=fun xs H Q=>∃ p ys,xs=[.ref p]/\(SqL K H p ys\/SqT K H p ys)/\Q (.int ys.length) H
theorem Zu (K:PySem.W.Frag) (h:X.K=K:=by rfl):JV X (.builtin "len") (Zlk K):=by subst h; exact ZdO
theorem Zaq {tg l:Expr} {tl:TE} (K:PySem.W.Frag) (hl:PE X l tl) (h:X.K=K:=by rfl):PI X tg l (ZkR K tl):=by subst h; exact ZjU hl
theorem Jn {tg l:Expr} {tl:TE} (K:PySem.W.Frag) (hl:PE X l tl) (h:X.K=K:=by rfl):PI X tg l (Zjz K tl):=by subst h; exact ZaN hl
theorem Zcq (hc:X.calm=true) (K:PySem.W.Frag) (hK:X.K=K:=by rfl):JV X (.builtin "all") (fun xs H Q=>∃ (p:Addr) (bs:List Bool),xs=[.ref p]/\SqL K H p (bs.map V.bl)/\Q (.bl (bs.all id)) H):=by
 subst hK
 intro pins s σ H xs us Q I r h
 obtain ⟨p,bs,rfl,hq,q⟩:=h
 obtain ⟨u,rfl,rx⟩:=ZaG r
 cases rx
 obtain ⟨its,rv,pl,hz⟩:=I.list hq
 have hlen:=rv.length
 rw [List.length_map] at hlen
 have hat:∀ (i:Nat) (v:Value),its.toArray[i]? = some v->∃ b,bs[i]? = some b/\v = .bool b:=fun i v e=>by
  have e':its[i]? = some v:=by simpa using e
  have hi:i<its.length:=(List.getElem?_eq_some_iff.mp e').1
  have hb:bs[i]? = some bs[i]:=by simp [hlen ▸ hi]
  have:(bs.map V.bl)[i]? = some (.bl bs[i]):=by rw [List.getElem?_map,hb]; rfl
  obtain ⟨u,hu,ru⟩:=rv.get this
  rw [e'] at hu
  cases hu
  exact ⟨_,hb,ru⟩
 refine call_all_walk (wpAny_pyIter_list pl.isList ?_)
 obtain ⟨ol,hol,_⟩:=id pl.isList
 have hsz:p<s.heap.objs.size:=Heap.lt_size hol
 have hh:X.A.in1.handled=none:=I.ok.hd hc
 refine ⟨s.heap.objs.size,_,_,_,_,_,fun i=>(bs[i]?).getD false,rfl,Walks.list (A:=X.A.in1) hh s.heap.objs.size p (Nat.ne_of_lt hsz) its.toArray,⟨⟨_,Heap.get?_push_size _ rfl,rfl,rfl⟩,Heap.IsList.at pl.isList fun o e=>Heap.get?_push_of_some _ e⟩,fun i v s' Q' E' hv hQ=>?_,fun h' tk hk=>?_⟩
 ·obtain ⟨b,hb,rfl⟩:=hat i v hv
  have hQ':Q' ((bs[i]?).getD false) s':=hQ
  rw [hb] at hQ'
  exact wpAny_truthy_bool hQ'
 ·have e1:(List.range its.toArray.size).all (fun i=>(bs[i]?).getD false)=bs.all id:=by
   rw [List.size_toArray,<- hlen,Bool.eq_iff_iff,List.all_eq_true,List.all_eq_true]
   constructor
   ·intro hh b hb
    obtain ⟨i,hi,rfl⟩:=List.mem_iff_getElem.mp hb
    have:=hh i (List.mem_range.mpr hi)
    simpa [hi] using this
   ·intro hh i hi
    have hi':=List.mem_range.mp hi
    have:=hh bs[i] (List.getElem_mem hi')
    simpa [hi'] using this
  rw [e1]
  exact ⟨.bl _,H,I.kept (t':=tk) fun b o e=>hk b o (by
   intro z
   have z':b=s.heap.objs.size:=by simpa using z
   exact absurd (z' ▸ Heap.lt_size e) (Nat.lt_irrefl _)) (Heap.get?_push_of_some _ e),rfl,q⟩
noncomputable def Jx (xs ys:List V):Bool:=decide (xs.length=ys.length)&&(xs.zip ys).all fun p=>eqV p.1 p.2
theorem Zem {x:V} (h:ZK x=true):eqV x x=true:=by
 cases x <;> simp_all [eqV,ZK]
theorem Zc3:∀ {xs:List V},xs.all ZK=true->Jx xs xs=true
 | [],_=>rfl
 | x::xs,h=>by
  rw [List.all_cons,Bool.and_eq_true] at h
  have ih:=Zc3 h.2
  unfold Jx at ih ⊢
  simp only [decide_true,Bool.true_and] at ih ⊢
  rw [List.zip_cons_cons,List.all_cons,Zem h.1,ih]
  rfl
theorem ZaD {xs ys:List V} (hl:xs.length=ys.length):(List.range xs.length).all (fun j=>match xs[j]?,ys[j]? with | some a,some b=>eqV a b | _,_=>false)=Jx xs ys:=by
 unfold Jx
 rw [decide_eq_true hl,Bool.true_and,Bool.eq_iff_iff,List.all_eq_true,List.all_eq_true]
 constructor
 ·intro h p hp
  obtain ⟨i,hi,rfl⟩:=List.mem_iff_getElem.mp hp
  rw [List.length_zip] at hi
  have:=h i (List.mem_range.mpr (by exact Om.k195 hl hi))
  have h1:i<xs.length:=by exact Om.k195 hl hi
  have h2:i<ys.length:=by exact Om.a2 ‹_› ‹_›
  simpa [h1,h2] using this
 ·intro h i hi
  have h1:=List.mem_range.mp hi
  have h2:i<ys.length:=by exact Om.a2 ‹_› ‹_›
  have hi':i<(xs.zip ys).length:=by rw [List.length_zip]; exact Om.k194 hl h1
  have:=h ((xs.zip ys)[i]) (List.getElem_mem hi')
  simpa [h1,h2] using this
theorem Zeg {A:Around} {s:Shared} {xs ys:List V} {its its2:List Value} (r1:Vals xs its) (r2:Vals ys its2) (f1:xs.all ZK=true) (f2:ys.all ZK=true):∀ j (h1:j<its.toArray.size) (h2:j<its2.toArray.size),
  SeqAt.EqAt A s its.toArray[j] its2.toArray[j] (match xs[j]?,ys[j]? with | some a,some b=>eqV a b | _,_=>false):=fun j h1 h2=>by
 have l1:=r1.length
 have l2:=r2.length
 rw [List.size_toArray] at h1 h2
 have hx:xs[j]? = some (xs[j]'(by exact Om.a1 ‹_› ‹_›)):=by simp
 have hy:ys[j]? = some (ys[j]'(by exact Om.a1 ‹_› ‹_›)):=by simp
 obtain ⟨u,hu,ru⟩:=r1.get hx
 obtain ⟨v,hv,rv⟩:=r2.get hy
 have e1:its.toArray[j]=u:=by
  have:its[j]? = some its[j]:=by simp [h1]
  rw [this] at hu
  simpa using Option.some.inj hu
 have e2:its2.toArray[j]=v:=by
  have:its2[j]? = some its2[j]:=by simp [h2]
  rw [this] at hv
  simpa using Option.some.inj hv
 rw [e1,e2,hx,hy]
 exact Zfo ru rv (List.all_eq_true.mp f1 _ (List.getElem_mem _)) (List.all_eq_true.mp f2 _ (List.getElem_mem _))
inductive Zk0 (K:PySem.W.Frag) (neg:Bool) (x:V) (y:V) (H:Hp) (Q:VK):Prop where
 | mk (a:Addr) (b:Addr) (xs:List V) (ys:List V) (_:x = .ref a) (_:y = .ref b) (_:SqL K H a xs) (_:SqL K H b ys) (_:((xs.all ZK=true/\ys.all ZK=true)\/xs.length≠ys.length)) (_:Q (.bl (if neg then !Jx xs ys else Jx xs ys)) H):Zk0 K neg x y H Q
noncomputable def rLL (K:PySem.W.Frag) (neg:Bool):R2:=fun x y H Q=>Zk0 K neg x y H Q
theorem ZhJ (hu:X.A.units<cLine) (K:PySem.W.Frag) (hK:X.K=K:=by rfl):OpR X (compareOp .Eq) (rLL K false):=by
 subst hK
 intro pins s σ H x y v u Q I rx ry h
 obtain ⟨a,b,xs,ys,rfl,rfl,h1,h2,hf,q⟩:=h
 cases rx
 cases ry
 obtain ⟨its,r1,p1,z1⟩:=I.list h1
 obtain ⟨its2,r2,p2,z2⟩:=I.list h2
 have l1:=r1.length
 have l2:=r2.length
 by_cases hl:xs.length=ys.length
 ·have hf':=hf.resolve_right (fun z=>z hl)
  refine SeqAt.eq_listAt p1.isList p2.isList (by rw [List.size_toArray,List.size_toArray]; exact Om.k193 l1 l2 hl) hu (Zeg r1 r2 hf'.1 hf'.2) ⟨.bl _,H,I,rfl,?_⟩
  rw [List.size_toArray,<- l1,ZaD hl]
  exact q
 ·have e:Jx xs ys=false:=by unfold Jx; rw [decide_eq_false hl,Bool.false_and]
  refine SeqAt.eq_list_lengthsAt p1.isList p2.isList (by simp only [List.size_toArray,bne_iff_ne]; exact Om.k192 l1 l2 hl) hu ⟨.bl _,H,I,rfl,?_⟩
  rw [<- e]
  exact q
theorem Zj2 (hu:X.A.units<cLine) (K:PySem.W.Frag) (hK:X.K=K:=by rfl):OpR X (compareOp .NotEq) (rLL K true):=by
 subst hK
 intro pins s σ H x y v u Q I rx ry h
 obtain ⟨a,b,xs,ys,rfl,rfl,h1,h2,hf,q⟩:=h
 cases rx
 cases ry
 obtain ⟨its,r1,p1,z1⟩:=I.list h1
 obtain ⟨its2,r2,p2,z2⟩:=I.list h2
 have l1:=r1.length
 have l2:=r2.length
 by_cases hl:xs.length=ys.length
 ·have hf':=hf.resolve_right (fun z=>z hl)
  refine SeqAt.RcNeAt.lists p1.isList p2.isList (by rw [List.size_toArray,List.size_toArray]; exact Om.k193 l1 l2 hl) hu (Zeg r1 r2 hf'.1 hf'.2) _ _ _ _ ⟨.bl _,H,I,rfl,?_⟩
  rw [List.size_toArray,<- l1,ZaD hl]
  exact q
 ·have e:Jx xs ys=false:=by unfold Jx; rw [decide_eq_false hl,Bool.false_and]
  refine SeqAt.RcNeAt.lists_lengths p1.isList p2.isList (by simp only [List.size_toArray,bne_iff_ne]; exact Om.k192 l1 l2 hl) hu _ _ _ _ ⟨.bl _,H,I,rfl,?_⟩
  have q':Q (.bl (!Jx xs ys)) H:=q
  rw [e] at q'
  exact q'
end
structure Wlk (J:It) (xs:List V) (P:Hp->Prop):Prop where
 go:∀ i H,P H->i<xs.length->J.go i H
 yld:∀ i H x H',P H->J.yld i H x H'->i<xs.length->H'=H/\xs[i]? = some x
 stop:∀ i H,P H->xs.length<=i->J.stop i H
theorem Zan {K:PySem.W.Frag} {a:Addr} {xs:List V}:Wlk (Itt K a) xs (fun H=>SqT K H a xs) :=
 ⟨fun i H h hi=>⟨xs,xs[i],h,by simp [hi]⟩,fun i H x H' h y _=>⟨y.1,y.2 xs h⟩,fun i H h hi=>⟨xs,h,hi⟩⟩
theorem Jz {K:PySem.W.Frag} {a:Addr} {xs:List V}:Wlk (Itl K a) xs (fun H=>SqL K H a xs) :=
 ⟨fun i H h hi=>⟨xs,xs[i],h,by simp [hi]⟩,fun i H x H' h y _=>⟨y.1,y.2 xs h⟩,fun i H h hi=>⟨xs,h,hi⟩⟩
noncomputable def rng (n:Nat):List V:=(List.range n).map fun i:Nat=>V.int (i:Int)
theorem ZR (n:Nat):(rng n).length=n:=by unfold rng; rw [List.length_map,List.length_range]
theorem Zht {n i:Nat} (h:i<n):(rng n)[i]? = some (.int (i:Int)):=by
 unfold rng
 rw [List.getElem?_map,List.getElem?_range h]
 rfl
theorem YT {n i:Nat} {x:V} (h:(rng n)[i]? = some x):i<n/\x = .int (i:Int):=by
 have hi:i<n:=by
  have:=(List.getElem?_eq_some_iff.mp h).1
  rwa [ZR] at this
 rw [Zht hi] at h
 exact ⟨hi,(Option.some.inj h).symm⟩
theorem Yj {n:Nat}:Wlk (Itr 0 n) (rng n) (fun _=>True) :=
 ⟨fun i H _ hi=>by rw [ZR] at hi; exact hi,fun i H x H' _ y hi=>by
  rw [ZR] at hi
  obtain ⟨e,rfl⟩:=y
  refine ⟨e,?_⟩
  rw [Zht hi,Int.zero_add],fun i H _ hi=>by rw [ZR] at hi; exact hi⟩
noncomputable def Zep (g:TG) (tt:TT) (te:TE) (x:V) (σ:St) (H:Hp) (R:Option V->St->Hp->Prop):Prop :=
 g x σ H fun σ3 H3=>tt σ3 H3 fun b H4=>if b=true then te σ3 H4 fun y H5=>R (some y) σ3 H5 else R none σ3 H4
theorem JP {J:It} {xs:List V} {P:Hp->Prop} {g:TG} {tt:TT} {te:TE} {l:Addr} {QL:Hp->Prop} {σ0:St} {H0:Hp} (Wk:Wlk J xs P) (Pv:Nat->List V->St->Hp->Prop) (h0:Pv 0 [] σ0 H0)
    (hP:∀ i ys σ H, Pv i ys σ H->P H/\H l=some (.lst ys))
    (hs:∀ i x ys σ H, xs[i]? = some x->Pv i ys σ H->Zep g tt te x σ H fun o σ3 H5 => match o with
      | some y => H5 l=some (.lst ys)/\ys.length<sizeLine/\Pv (i+1) (ys++[y]) σ3 (upd H5 l (.lst (ys++[y])))
      | none => Pv (i+1) ys σ3 H5)
    (hd:∀ ys σ H, Pv xs.length ys σ H->QL H) :
    ∃ W:Nat->Nat->List V->St->Hp->Prop, (∃ m, W 0 m [] σ0 H0) /\
    ∀ i m ys σ' H', W i m ys σ' H'->H' l=some (.lst ys) /\
      ((J.stop i H'/\QL H') \/
       (J.go i H'/\∃ N:List V->St->Hp->Prop, (∀ zs σ2 H2, N zs σ2 H2->∃ m', m'<m/\W (i+1) m' zs σ2 H2)/\∀ x H2, J.yld i H' x H2->g x σ' H2 fun σ3 H3 => tt σ3 H3 fun b H4 =>
          if b=true then te σ3 H4 fun y H5 => H5 l=some (.lst ys)/\ys.length<sizeLine/\N (ys++[y]) σ3 (upd H5 l (.lst (ys++[y])))
          else N ys σ3 H4)) := by
  refine ⟨fun i m ys σ H => m=xs.length - i/\i<=xs.length/\Pv i ys σ H, ⟨xs.length, by simp, Nat.zero_le _, h0⟩, ?_⟩
  rintro i m ys σ H ⟨rfl, hi, p⟩
  obtain ⟨hp, hl⟩ := hP i ys σ H p
  refine ⟨hl, ?_⟩
  by_cases hlt:i<xs.length
  · refine .inr ⟨Wk.go i H hp hlt, fun zs σ2 H2 => Pv (i+1) zs σ2 H2, fun zs σ2 H2 n => ⟨xs.length - (i+1), by exact Om.k45 hlt, rfl, hlt, n⟩, fun x H2 y => ?_⟩
    obtain ⟨e, hx⟩ := Wk.yld i H x H2 hp y hlt
    subst e
    exact hs i x ys σ _ hx p
  · have e:i=xs.length := by exact Om.k191 hi hlt
    subst e
    exact .inl ⟨Wk.stop _ H hp (Nat.le_refl _), hd ys σ H p⟩
theorem Same.upd_new {H H':Hp} {l:Addr} {o:HO} (e:Same H H') (h:H l=none):Same H (upd H' l o):=fun b u q=>by
 rw [Zh (Zm q h)]
 exact e b u q
theorem Same.new {H:Hp} {l:Addr} {o:HO} (h:H l=none):Same H (upd H l o):=(Same.refl H).upd_new h
theorem Same.seqT {K:PySem.W.Frag} {H H':Hp} {a:Addr} {xs:List V} (e:Same H H') (h:SqT K H a xs):SqT K H' a xs:=by
 rcases h with (h | ⟨o,h⟩) | h
 ·exact .inl (.inl (e _ _ h))
 ·exact .inl (.inr ⟨o,e _ _ h⟩)
 ·exact .inr h
theorem JT {β:Type} {F:Nat->Option β} {i:Nat}:(List.range (i+1)).filterMap F=(List.range i).filterMap F++(F i).toList:=by
 rw [List.range_succ,List.filterMap_append]
 cases e:F i <;> simp [e]
theorem ZcC {β:Type} {F:Nat->Option β} {i:Nat}:((List.range i).filterMap F).length<=i:=by
 have h:=List.length_filterMap_le F (List.range i)
 rw [List.length_range] at h
 exact h
theorem Z2 {α β:Type} (h:α->β) (l:List α):(l.filterMap fun i=>some (h i))=l.map h:=by
 induction l with
 | nil=>rfl
 | cons a l ih=>rw [List.filterMap_cons,List.map_cons,ih]
theorem ZO {J:It} {xs:List V} {P:Hp->Prop} {g:TG} {tt:TT} {te:TE} {l:Addr} {QL:Hp->Prop} {σ0:St} {H1:Hp} (F:Nat->Option V) (S:St->Prop) (Wk:Wlk J xs P) (hz:xs.length<=sizeLine) (hl:H1 l=none)
    (hPm:∀ H, Same H1 H->P H) (hS:S σ0)
    (hs:∀ i x σ H (R:Option V->St->Hp->Prop), xs[i]? = some x->S σ->Same H1 H->(∀ σ' H', S σ'->Same H H'->R (F i) σ' H')->Zep g tt te x σ H R)
    (hd:∀ H, Same H1 H->H l=some (.lst ((List.range xs.length).filterMap F))->QL H) :
    ∃ W:Nat->Nat->List V->St->Hp->Prop, (∃ m, W 0 m [] σ0 (upd H1 l (.lst []))) /\
    ∀ i m ys σ' H', W i m ys σ' H'->H' l=some (.lst ys) /\
      ((J.stop i H'/\QL H') \/
       (J.go i H'/\∃ N:List V->St->Hp->Prop, (∀ zs σ2 H2, N zs σ2 H2->∃ m', m'<m/\W (i+1) m' zs σ2 H2)/\∀ x H2, J.yld i H' x H2->g x σ' H2 fun σ3 H3 => tt σ3 H3 fun b H4 =>
          if b=true then te σ3 H4 fun y H5 => H5 l=some (.lst ys)/\ys.length<sizeLine/\N (ys++[y]) σ3 (upd H5 l (.lst (ys++[y])))
          else N ys σ3 H4)) := by
  refine JP Wk (fun i ys σ H => Same H1 H/\H l=some (.lst ys)/\S σ/\ys=(List.range i).filterMap F) ⟨Same.new hl, Zd, hS, rfl⟩ (fun i ys σ H p => ⟨hPm H p.1, p.2.1⟩) ?_ ?_
  · rintro i x ys σ H hx ⟨sm, hl', hσ, rfl⟩
    refine hs i x σ H _ hx hσ sm fun σ' H' hσ' sm' => ?_
    have hi:i<xs.length := (List.getElem?_eq_some_iff.mp hx).1
    cases e:F i with
    | none =>
      refine ⟨sm.trans sm', sm' _ _ hl', hσ', ?_⟩
      rw [JT, e]
      simp
    | some y =>
      refine ⟨sm' _ _ hl', ?_, (sm.trans sm').upd_new hl, Zd, hσ', ?_⟩
      · have h1 := ZcC (F := F) (i := i)
        omega
      · rw [JT, e]
        rfl
  · rintro ys σ H ⟨sm, hl', hσ, rfl⟩
    exact hd H sm hl'
noncomputable def Grid (K:PySem.W.Frag) (H:Hp) (a:Addr) (B:List (List V)):Prop :=
 ∃ ps:List Addr,SqT K H a (ps.map V.ref)/\Paired (fun p row=>SqT K H p row) ps B
theorem Grid.same {K:PySem.W.Frag} {H H':Hp} {a:Addr} {B:List (List V)} (g:Grid K H a B) (e:Same H H'):Grid K H' a B :=
 let ⟨ps,h,r⟩:=g
 ⟨ps,e.seqT h,Paired.mapP r fun _ _ q=>e.seqT q⟩
theorem Paired.getL {α β:Type} {F:α->β->Prop}:∀ {l₁:List α} {l₂:List β} {i:Nat} {a:α},Paired F l₁ l₂->l₁[i]? = some a->∃ b,l₂[i]? = some b/\F a b
 | _,_,_,_,.nil,e=>by simp at e
 | _,_,0,_,.cons r _,e=>by simp at e; subst e; exact ⟨_,rfl,r⟩
 | _,_,i+1,a,.cons _ t,e=>by
  obtain ⟨u,h1,h2⟩:=Paired.getL (i:=i) (a:=a) t (by simpa using e)
  exact ⟨u,by simpa using h1,h2⟩
theorem Paired.getR {α β:Type} {F:α->β->Prop}:∀ {l₁:List α} {l₂:List β} {i:Nat} {b:β},Paired F l₁ l₂->l₂[i]? = some b->∃ a,l₁[i]? = some a/\F a b
 | _,_,_,_,.nil,e=>by simp at e
 | _,_,0,_,.cons r _,e=>by simp at e; subst e; exact ⟨_,rfl,r⟩
 | _,_,i+1,b,.cons _ t,e=>by
  obtain ⟨u,h1,h2⟩:=Paired.getR (i:=i) (b:=b) t (by simpa using e)
  exact ⟨u,by simpa using h1,h2⟩
structure Sq (n:Nat) (B:List (List V)):Prop where
 len:B.length=n
 row:∀ r∈B,r.length=n
 ent:∀ r∈B,∀ v∈r,v = .non\/∃ k:Int,v = .int k
noncomputable def at2 (B:List (List V)) (r c:Nat):V:=((B[r]?).getD []).getD c .non
noncomputable def Zj (B:List (List V)) (r:Nat):List V:=(B[r]?).getD []
theorem Zcj {v:V} (h:v = .non\/∃ k:Int,v = .int k):ZK v=true:=by
 rcases h with rfl | ⟨k,rfl⟩ <;> rfl
theorem Sq.rowAt {n:Nat} {B:List (List V)} (S:Sq n B) {r:Nat} (h:r<n):B[r]? = some (Zj B r)/\(Zj B r).length=n/\Zj B r∈B:=by
 have h':r<B.length:=by rw [S.len]; exact h
 have e:B[r]? = some B[r]:=by simp [h']
 have e2:Zj B r=B[r]:=by unfold Zj; rw [e]; rfl
 rw [e2]
 exact ⟨e,S.row _ (List.getElem_mem h'),List.getElem_mem h'⟩
theorem Sq.entAt {n:Nat} {B:List (List V)} (S:Sq n B) {r c:Nat} (h:r<n) (hc:c<n):(Zj B r)[c]? = some (at2 B r c)/\(at2 B r c = .non\/∃ k:Int,at2 B r c = .int k):=by
 obtain ⟨e,l,m⟩:=S.rowAt h
 have hc':c<(Zj B r).length:=by rw [l]; exact hc
 have e2:(Zj B r)[c]? = some (Zj B r)[c]:=by simp [hc']
 have e3:at2 B r c=(Zj B r)[c]:=by
  show (Zj B r).getD c .non=_
  rw [List.getD_eq_getElem?_getD,e2]
  rfl
 rw [e3]
 exact ⟨e2,S.ent _ m _ (List.getElem_mem hc')⟩
theorem Sq.rowFlat {n:Nat} {B:List (List V)} (S:Sq n B) {row:List V} (h:row∈B):row.all ZK=true:=List.all_eq_true.mpr fun v hv=>Zcj (S.ent row h v hv)
theorem Grid.rowAt {K:PySem.W.Frag} {H:Hp} {a:Addr} {n:Nat} {B:List (List V)} (g:Grid K H a B) (S:Sq n B) {r:Nat} (h:r<n):∃ (xs:List V) (p:Addr),SqT K H a xs/\xs[r]? = some (.ref p)/\SqT K H p (Zj B r):=by
 obtain ⟨ps,h1,r1⟩:=g
 obtain ⟨p,e,q⟩:=Paired.getR r1 (S.rowAt h).1
 exact ⟨_,p,h1,by rw [List.getElem?_map,e]; rfl,q⟩
theorem JE {K:PySem.W.Frag} {H:Hp} {n:Nat} {ps:List Addr} {B:List (List V)} (r:Paired (fun p row=>SqT K H p row) ps B) (S:Sq n B) {i:Nat} {x:V} (hi:(ps.map V.ref)[i]? = some x):∃ p,x = .ref p/\i<n/\SqT K H p (Zj B i):=by
 rw [List.getElem?_map] at hi
 cases e:ps[i]? with
 | none=>rw [e] at hi; cases hi
 | some p =>
  rw [e] at hi
  cases hi
  obtain ⟨row,hb,q⟩:=Paired.getL r e
  refine ⟨p,rfl,?_,?_⟩
  ·rw [<- S.len]
   exact (List.getElem?_eq_some_iff.mp hb).1
  ·unfold Zj
   rw [hb]
   exact q
theorem ZF {xs:List V} {i:Nat} {v:V} (h:xs[i]? = some v):atI xs (i:Int)=some v:=Zjp h
theorem Zs {n:Nat} (h:n<=1000):n<=sizeLine:=Nat.le_of_lt (ZD h)
theorem Zau (ns:List Int):(ns.map V.int).all ZK=true:=by
 rw [List.all_map]
 exact List.all_eq_true.mpr fun _ _=>rfl
theorem Zg0 {p:V->Bool} {xs:List V} {n:Nat} (h:xs.length=n):xs.any p=(List.range n).any fun k=>p (xs.getD k .non):=by
 rw [Bool.eq_iff_iff,List.any_eq_true,List.any_eq_true]
 constructor
 ·rintro ⟨x,hx,hp⟩
  obtain ⟨i,hi,rfl⟩:=List.mem_iff_getElem.mp hx
  refine ⟨i,List.mem_range.mpr (by exact Om.a2 ‹_› ‹_›),?_⟩
  rw [List.getD_eq_getElem?_getD]
  simpa [hi] using hp
 ·rintro ⟨i,hi,hp⟩
  have hi':i<xs.length:=by rw [h]; exact List.mem_range.mp hi
  refine ⟨xs[i],List.getElem_mem hi',?_⟩
  rw [List.getD_eq_getElem?_getD] at hp
  simpa [hi'] using hp
theorem ZbO {v:V} (h:v = .non\/∃ k:Int,v = .int k) (t:Int):eqV v (.int t)=decide (v = .int t):=by
 rcases h with rfl | ⟨k,rfl⟩
 ·simp [eqV]
 ·by_cases e:k=t
  ·subst e
   simp [eqV]
  ·simp [eqV,e]
theorem Paired.append {α β:Type} {F:α->β->Prop}:∀ {l₁ m₁:List α} {l₂ m₂:List β},Paired F l₁ l₂->Paired F m₁ m₂->Paired F (l₁++m₁) (l₂++m₂)
 | _,_,_,_,.nil,s=>s
 | _,_,_,_,.cons r t,s=>.cons r (Paired.append t s)
theorem Zf9:bootBuiltins "list" = some (Value.type "list"):=by decide +kernel
theorem Zer:bootBuiltins "tuple" = some (Value.type "tuple"):=by decide +kernel
theorem Zkh:bootBuiltins "int" = some (Value.type "int"):=by decide +kernel
theorem Jo {X:Cx} {Nc:List Str} {scope:Scope} {cl:List (Str × Addr)} {C:Addr} {s₁:Shared} {H₁:Hp} {fp:List Addr} (i:Nat) {x:Str} {pos:Pos} (hN:Nc.Nodup:=by decide +kernel) (hi:Nc[i]? = some x:=by rfl)
  (hx:(relabel scope X.env).names.lookup x=some .local:=by rfl):PG (Ye X Nc scope cl C s₁ H₁ fp) (.Name x pos) (ZaU i):=ZG hN hi (.inl hx) (.inr hx)
end L2
namespace L2
open PySem PySem.Spec PyProof.Rows
structure Flies (P:Program) (w:World) (outer:List Env) (H:Hp) (s:Shared) (e:Addr) (cls a0:Value) (H':Hp) (B:Heap) (s':Shared):Prop where
 os:s'.os=s.os
 bare:AllBare s'.gens
 fly:Heap.FlyingW B outer e cls a0 s'.heap
 keep:∀ b o,s.heap.get? b=some o->H b=none->b∉frs outer->B.get? b=some o
 slot:∀ b o,s.heap.get? b=some o->H b=none->b∈frs outer->∃ sl,s'.heap.get? b=some { o with slots:=sl }
 free:∀ b o,s.heap.get? b=some o->H b=none->H' b=none
 there:∀ b o,s.heap.get? b=some o->b∉frs outer->∃ o',B.get? b=some o'
 tups:∀ b xs,H b=some (.tup xs)->H' b=some (.tup xs)
 frzs:∀ b o u,H b=some (.frz o u)->H' b=some (.frz o u)
 tbls:∀ b ps,H b=some (.tbl ps)->∃ more,H' b=some (.tbl (ps++more))
 hok:HOk P w H' B
section
variable {P:Program} {w:World} {outer:List Env} {H H':Hp} {s s' s'':Shared} {e:Addr} {cls a0:Value} {B:Heap}
theorem Flies.on (x:Flies P w outer H s e cls a0 H' B s') (fl:Heap.FlyingW B outer e cls a0 s''.heap) (up:s'.heap.UpToSlots s''.heap) (ho:s''.os=s'.os) (hg:AllBare s''.gens):Flies P w outer H s e cls a0 H' B s'' :=
 ⟨ho.trans x.os,hg,fl,x.keep,fun b o q n hb=>by
  obtain ⟨sl,q1⟩:=x.slot b o q n hb
  obtain ⟨_,o2,q2,d2⟩:=x.fly.2.2.1.mem hb
  rw [q1] at q2
  cases q2
  obtain ⟨sl2,q3⟩:=up b _ q1 d2
  exact ⟨sl2,q3⟩,x.free,x.there,x.tups,x.frzs,x.tbls,x.hok⟩
theorem Flies.un (x:Flies P w outer H s e cls a0 H' B s'):Un (frs outer) [] H H' s.heap s'.heap :=
 ⟨fun b o q n hb _=>x.fly.1 b o (x.keep b o q n hb),fun b o q n hb _=>x.slot b o q n hb,fun b o q n _=>x.free b o q n,fun b o q _=>by
  by_cases hb:b∈frs outer
  ·obtain ⟨_,o2,q2,_⟩:=x.fly.2.2.1.mem hb
   exact ⟨o2,q2⟩
  ·obtain ⟨o2,q2⟩:=x.there b o q hb
   exact ⟨o2,x.fly.1 b o2 q2⟩,x.tups,x.frzs,x.tbls⟩
theorem Flies.hokH (x:Flies P w outer H s e cls a0 H' B s'):HOk P w H' s'.heap:=x.hok.kept x.fly.1
end
theorem Inv.flown {X:Cx} {pins:List (Addr × Obj)} {σ:St} {H H':Hp} {s s':Shared} {e:Addr} {cls a0:Value} {B:Heap} (I:Inv X pins σ H s) (x:Flies X.prog X.w X.stack H s e cls a0 H' B s'):Inv X pins σ H' s' :=
 I.call' (ch:=[]) x.os x.un x.hokH x.bare fun b z=>absurd z (by simp)
section
variable {P:Program} {w:World} {K:PySem.W.Frag} {mg:Str->Option Value} {base:Heap} {N:List Str} {qual:Str} {scope:Scope} {f:Addr} {cd:Value} {A:Around} {outer:List Env} {s₀:Shared} {H₀:Hp} {E:XK}
end
noncomputable abbrev Cx.tryIn (X:Cx) (pins:List (Addr × Obj)) (xe:Value->Shared->Prop):Cx:={ X with pn:=X.pn++pins,xe:=xe }
theorem Cx.Ok.tryIn {X:Cx} (ok:X.Ok) (pins:List (Addr × Obj)) (xe:Value->Shared->Prop):(X.tryIn pins xe).Ok :=
 ⟨ok.mod,ok.kind,ok.glob,ok.blt,ok.above,ok.inj,ok.has,ok.cab,ok.hd,ok.frames,ok.stk,ok.exf,ok.bs,ok.bsz,ok.noex,ok.exfs,ok.funs,ok.frf⟩
theorem Cx.Ok.untry {X:Cx} {pins:List (Addr × Obj)} {xe:Value->Shared->Prop} (ok:(X.tryIn pins xe).Ok):X.Ok :=
 ⟨ok.mod,ok.kind,ok.glob,ok.blt,ok.above,ok.inj,ok.has,ok.cab,ok.hd,ok.frames,ok.stk,ok.exf,ok.bs,ok.bsz,ok.noex,ok.exfs,ok.funs,ok.frf⟩
section
variable {X:Cx} {pins ps':List (Addr × Obj)} {σ:St} {H:Hp} {s:Shared} {xe:Value->Shared->Prop}
theorem Inv.tryIn (I:Inv X pins σ H s) (xe:Value->Shared->Prop):Inv (X.tryIn pins xe) [] σ H s :=
 ⟨I.ok.tryIn pins xe,I.os,I.bare,I.base,I.loc,I.cell,I.free,I.freeC,fun p hp=>I.pin p (by rw [List.append_nil] at hp; exact hp),I.hok,I.len⟩
theorem Inv.untry (I:Inv (X.tryIn pins xe) ps' σ H s):Inv X pins σ H s :=
 ⟨I.ok.untry,I.os,I.bare,I.base,I.loc,I.cell,I.free,I.freeC,fun p hp=>I.pin p (List.mem_append_left _ hp),I.hok,I.len⟩
theorem SP.untry {D:ZbF} {f:Flow} (h:SP (X.tryIn pins xe) ps' D f s):SP X pins D f s:=by
 cases f with
 | next=>obtain ⟨σ',H',I,q⟩:=h; exact ⟨σ',H',I.untry,q⟩
 | brk=>obtain ⟨σ',H',I,q⟩:=h; exact ⟨σ',H',I.untry,q⟩
 | cont=>obtain ⟨σ',H',I,q⟩:=h; exact ⟨σ',H',I.untry,q⟩
 | ret u=>obtain ⟨v,σ',H',I,r,q⟩:=h; exact ⟨v,σ',H',I.untry,r,q⟩
end
noncomputable def ZeE (CX:CXT) (X:Cx) (E:XK) (σ:St):Prop:=∀ (pins:List (Addr × Obj)) (H:Hp) (s:Shared) (e:Value) (s':Shared),Inv X pins σ H s->CX X.stack H s E e s'->X.xe e s'
noncomputable def ZjI (sp:Sp) (dvs:List V) (E:XK) (σ0:St) (t:TA):TE:=fun σ H Q=>σ=σ0/\t σ H fun vs H1=>sp (vs++dvs) H1 Q E
section
variable {X:Cx} {CX:CXT} {k:Nat} {f:Addr} {fd:FuncData} {ps:List Str} {sp:Sp} {dvs:List V} {ds:List Value} {E:XK} {x:Str} {p pos:Pos} {e:Expr} {es:List Expr} {t:TA}
theorem Zd3 {σ0:St} (F:FnOk X.prog X.w X.K X.mg X.base CX k f fd ps sp) (hr:Room k X.A) (hg:Gl X x) (hm:X.mg x=some (.ref f)) (hk:PySem.W.keepIn X.K (.ref f)=true) (hb:Binds X.K fd ps ds) (hd:Vals dvs ds) (hx:ZeE CX X E σ0)
  (ha:PA X (e::es) t) (hdb:(x==("__debug__" : Str))=false:=by decide) (he:starEach (e::es) X.env=(false,eval e X.env)::starEach es X.env:=by rfl) (hpl:(backTo pos (starEach es X.env)).any (·.1)=false:=by rfl) :
  PE X (.Call (.Name x p) (e::es) [] pos) (ZjI sp dvs E σ0 t):=by
 intro pins s σ H Q I h
 obtain ⟨rfl,h⟩:=h
 refine wpAny_Call_Name_kw (ZaR I hg hm ?_ hdb)
 refine PySem.W.callWith_K (h₀:=X.base) I.ok.mod.kin hk (thn (ha pos pins s σ H _ I h) fun us s1 ⟨vs,H1,I1,r,q⟩=>⟨I1.kIn,?_⟩) he hpl
 have r2:Vals (vs++dvs) (us++ds):=r.append hd
 have hl:(us++ds).length=ps.length:=by rw [<- r2.length]; exact F.len _ _ _ _ q
 refine wpAny_call (codeAny_mono (F.run X.A X.stack s1 H1 ⟨us,[]⟩ (us++ds) (vs++dvs) Q E hr I1.env0 (hb s1 us I1.kIn hl) r2 q) fun r s' hq=>?_)
 cases r with
 | error e=>exact hx pins H1 s1 e s' I1 hq
 | ok fl =>
  cases fl with
  | ret u=>exact I1.after hq
  | next=>exact False.elim hq
  | brk=>exact False.elim hq
  | cont=>exact False.elim hq
end
noncomputable abbrev Cx.marked (X:Cx) (e:Addr):Cx:={ X with A:=X.A.mark (some (.ref e)),calm:=false,xe:=fun _ _=>False }
section
variable {X:Cx} {pins:List (Addr × Obj)} {σ:St} {H:Hp} {s:Shared} {e:Addr}
theorem Inv.marked (I:Inv X pins σ H s) (e:Addr):Inv (X.marked e) pins σ H s :=
 ⟨⟨I.ok.mod,I.ok.kind,I.ok.glob,I.ok.blt,I.ok.above,I.ok.inj,I.ok.has,I.ok.cab,fun z=>(nomatch z),I.ok.frames,I.ok.stk,I.ok.exf,I.ok.bs,I.ok.bsz,I.ok.noex,I.ok.exfs,I.ok.funs,I.ok.frf⟩,
  I.os,I.bare,I.base,I.loc,I.cell,I.free,I.freeC,I.pin,I.hok,I.len⟩
theorem Inv.unmark (I:Inv (X.marked e) pins σ H s) (ok:X.Ok):Inv X pins σ H s:=⟨ok,I.os,I.bare,I.base,I.loc,I.cell,I.free,I.freeC,I.pin,I.hok,I.len⟩
theorem SP.unmark {D:ZbF} {f:Flow} (h:SP (X.marked e) pins D f s) (ok:X.Ok):SP X pins D f s:=by
 cases f with
 | next=>obtain ⟨σ',H',I,q⟩:=h; exact ⟨σ',H',I.unmark ok,q⟩
 | brk=>obtain ⟨σ',H',I,q⟩:=h; exact ⟨σ',H',I.unmark ok,q⟩
 | cont=>obtain ⟨σ',H',I,q⟩:=h; exact ⟨σ',H',I.unmark ok,q⟩
 | ret u=>obtain ⟨v,σ',H',I,r,q⟩:=h; exact ⟨v,σ',H',I.unmark ok,r,q⟩
end
noncomputable def PH (X:Cx) (hs:List ExceptHandler) (t:Value->TS):Prop :=
 ∀ (pins:List (Addr × Obj)) (s0 s:Shared) (σ:St) (H0 H':Hp) (e:Addr) (cls a0:Value) (B:Heap) (D:ZbF),Inv X pins σ H0 s0->Flies X.prog X.w X.stack H0 s0 e cls a0 H' B s->t cls D σ H' ->
  wpAny (model X.prog X.w) X.A (handleBy (.ref e) X.env hs) (SP X pins D) X.xe s
theorem Zkd {M:Model} {B:Heap} {l:List Env} {e:Addr} {cls a0:Value} {h:Heap} (x:Heap.FlyingW B l e cls a0 h):PySem.W.Looks M h (typeOf (.ref e)) cls:=by
 obtain ⟨ob,q,rfl⟩:=x.there
 exact (PySem.W.Looks.ld q).andThen .now
section
variable {X:Cx}
theorem ZhA {c:Str} {np pos:Pos} {Cc:Addr} {b₀:Stmt} {suite:List Stmt} {rest:List ExceptHandler} {tb:TS} {tr:Value->TS} (hg:Gl X c) (hm:X.mg c=some (.ref Cc)) (hb:∀ e,PSs (X.marked e) (b₀::suite) tb) (hr:PH X rest tr)
  (hdb:(c==("__debug__" : Str))=false:=by decide) :
  PH X (.ExceptHandler (some (.Name c np)) none (b₀::suite) pos::rest) (fun cls D σ H=>∃ b,PySem.W.exmOne X.K cls (.ref Cc)=some b/\if b=true then tb D σ H else tr cls D σ H):=by
 intro pins s0 s σ H0 H' e cls a0 B D I0 fl q
 obtain ⟨b,eb,q⟩:=q
 have I1:=I0.flown fl
 refine wpAny_handleBy_cons (codeAny_handlers_test (ZaR (I1.marked e) hg hm ?_ hdb)) (by intro z; cases z)
 refine PySem.W.exm_one I1.kIn (Zkd fl.fly) eb _ _ _ s (fun _ _ z=>z) ?_
 cases b with
 | false =>
  rw [if_neg Bool.false_ne_true] at q
  exact hr pins s0 s σ H0 H' e cls a0 B D I0 fl q
 | true =>
  rw [if_pos rfl] at q
  refine codeAny_handlers_suite (lands_againW fl.fly fun h6 fl6 up6=>?_)
  have fl':Flies X.prog X.w X.stack H0 s0 e cls a0 H' B { s with heap:=h6 }:=fl.on fl6 up6 rfl fl.bare
  have I6:=I0.flown fl'
  exact wpAny_mono (hb e pins _ σ H' D (I6.marked e) q) (fun f s2 q2=>q2.unmark I0.ok) fun _ _ z=>z.elim
theorem ZhB:PH X [] (fun _ _ _ _=>False):=fun _ _ _ _ _ _ _ _ _ _ _ _ _ h=>h.elim
end
end L2
namespace L2
open PySem
noncomputable def Z4 (n:Nat) (B:List (List V)) (r c:Nat):List V:=Zj B r++(List.range n).map fun i=>at2 B i c
noncomputable def Zbv (n:Nat) (B:List (List V)) (r c:Nat):List V:=(List.range n).filterMap fun t:Nat=>if (!inV (.int (t:Int)) (Z4 n B r c))=true then some (.int (t:Int)) else none
theorem ZbS {n:Nat} {B:List (List V)} (S:Sq n B) {r c:Nat} (hr:r<n) (hc:c<n):(Z4 n B r c).all ZK=true:=by
 unfold Z4
 rw [List.all_append,S.rowFlat (S.rowAt hr).2.2,Bool.true_and,List.all_map]
 exact List.all_eq_true.mpr fun i hi=>Zcj (S.entAt (List.mem_range.mp hi) hc).2
noncomputable def J3 (row:List V) (c:Nat) (v:V):List V:=row.take c++v::row.drop (c+1)
noncomputable def Jr (B:List (List V)) (r c:Nat) (v:V):List (List V):=B.take r++J3 (Zj B r) c v::B.drop (r+1)
theorem Jk {α:Type} {l:List α} {k:Nat} {v:α} (hk:k<l.length) (i:Nat):(l.take k++v::l.drop (k+1))[i]? = if i=k then some v else l[i]?:=by
 by_cases h1:i<k
 ·rw [List.getElem?_append_left (by rw [List.length_take]; exact Om.k190 hk h1),List.getElem?_take_of_lt h1,if_neg (by exact Om.k189 h1)]
 ·rw [List.getElem?_append_right (by rw [List.length_take]; exact Om.k188 hk h1),List.length_take]
  have e:min k l.length=k:=by exact Om.m1 ‹_›
  rw [e]
  by_cases h2:i=k
  ·rw [if_pos h2,h2,Nat.sub_self]
   rfl
  ·rw [if_neg h2]
   have e2:i - k=(i - k - 1)+1:=by exact Om.k187 h1 e h2
   rw [e2,List.getElem?_cons_succ,List.getElem?_drop]
   congr 1
   exact Om.k186 h1 e e2
theorem Jj {α:Type} {l:List α} {k:Nat} {v:α} (hk:k<l.length):(l.take k++v::l.drop (k+1)).length=l.length:=by
 rw [List.length_append,List.length_cons,List.length_take,List.length_drop]
 exact Om.k185 hk
theorem Zhl {n:Nat} {B:List (List V)} (S:Sq n B) {r c:Nat} (hr:r<n) {v:V} (r':Nat):Zj (Jr B r c v) r'=if r'=r then J3 (Zj B r) c v else Zj B r':=by
 unfold Jr
 show (((B.take r++J3 (Zj B r) c v::B.drop (r+1))[r']?).getD [])=_
 rw [Jk (by rw [S.len]; exact hr)]
 split
 ·rfl
 ·rfl
theorem Yk {n:Nat} {B:List (List V)} (S:Sq n B) {r c:Nat} (hr:r<n) (hc:c<n) {v:V} (r' c':Nat):at2 (Jr B r c v) r' c'=if r'=r/\c'=c then v else at2 B r' c':=by
 show (Zj (Jr B r c v) r').getD c' .non=_
 rw [Zhl S hr r']
 by_cases h:r'=r
 ·rw [if_pos h]
  unfold J3
  rw [List.getD_eq_getElem?_getD,Jk (by rw [(S.rowAt hr).2.1]; exact hc)]
  by_cases h2:c'=c
  ·rw [if_pos h2,if_pos ⟨h,h2⟩]
   rfl
  ·rw [if_neg h2,if_neg (fun z=>h2 z.2),h]
   rw [<- List.getD_eq_getElem?_getD]
   rfl
 ·rw [if_neg h,if_neg (fun z=>h z.1)]
  rfl
theorem Zap {n:Nat} {B:List (List V)} (S:Sq n B) {r c:Nat} (hr:r<n) (hc:c<n) {v:V} (hv:v = .non\/∃ k:Int,v = .int k):Sq n (Jr B r c v):=by
 have hrl:=(S.rowAt hr).2.1
 refine ⟨?_,fun row h=>?_,fun row h x hx=>?_⟩
 ·unfold Jr
  rw [Jj (by rw [S.len]; exact hr)]
  exact S.len
 ·unfold Jr at h
  rcases List.mem_append.mp h with h | h
  ·exact S.row row (List.mem_of_mem_take h)
  ·rcases List.mem_cons.mp h with h | h
   ·rw [h]
    unfold J3
    rw [Jj (by rw [hrl]; exact hc)]
    exact hrl
   ·exact S.row row (List.mem_of_mem_drop h)
 ·unfold Jr at h
  rcases List.mem_append.mp h with h | h
  ·exact S.ent row (List.mem_of_mem_take h) x hx
  ·rcases List.mem_cons.mp h with h | h
   ·rw [h] at hx
    unfold J3 at hx
    rcases List.mem_append.mp hx with hx | hx
    ·exact S.ent _ (S.rowAt hr).2.2 x (List.mem_of_mem_take hx)
    ·rcases List.mem_cons.mp hx with hx | hx
     ·rw [hx]
      exact hv
     ·exact S.ent _ (S.rowAt hr).2.2 x (List.mem_of_mem_drop hx)
   ·exact S.ent row (List.mem_of_mem_drop h) x hx
structure Lat (n:Nat) (B:List (List V)):Prop where
 ent:∀ r c,r<n->c<n->at2 B r c = .non\/∃ k:Int,at2 B r c = .int k/\0<=k/\k<n
 row:∀ r c c',r<n->c<n->c'<n->c≠c'->at2 B r c = .non\/at2 B r c≠at2 B r c'
 col:∀ r r' c,r<n->r'<n->c<n->r≠r'->at2 B r c = .non\/at2 B r c≠at2 B r' c
theorem Zbf {n:Nat} {B:List (List V)} (S:Sq n B) {r c:Nat} (hr:r<n) (hc:c<n) (t:Int):inV (.int t) (Z4 n B r c)=true↔∃ k,k<n/\(at2 B r k = .int t\/at2 B k c = .int t):=by
 unfold inV Z4
 rw [List.any_append,Bool.or_eq_true,Zg0 (S.rowAt hr).2.1,List.any_map,List.any_eq_true,List.any_eq_true]
 constructor
 ·rintro (⟨k,hk,h⟩ | ⟨k,hk,h⟩)
  ·have hk':=List.mem_range.mp hk
   refine ⟨k,hk',.inl ?_⟩
   have h':eqV (at2 B r k) (.int t)=true:=h
   rw [ZbO (S.entAt hr hk').2,decide_eq_true_iff] at h'
   exact h'
  ·have hk':=List.mem_range.mp hk
   refine ⟨k,hk',.inr ?_⟩
   have h':eqV (at2 B k c) (.int t)=true:=h
   rw [ZbO (S.entAt hk' hc).2,decide_eq_true_iff] at h'
   exact h'
 ·rintro ⟨k,hk,h | h⟩
  ·refine .inl ⟨k,List.mem_range.mpr hk,?_⟩
   show eqV (at2 B r k) (.int t)=true
   rw [ZbO (S.entAt hr hk).2,decide_eq_true_iff]
   exact h
  ·refine .inr ⟨k,List.mem_range.mpr hk,?_⟩
   show eqV (at2 B k c) (.int t)=true
   rw [ZbO (S.entAt hk hc).2,decide_eq_true_iff]
   exact h
theorem Zek {n:Nat} {B:List (List V)} {r c:Nat} (t:Int):inV (.int t) (Zbv n B r c)=true↔0<=t/\t<n/\inV (.int t) (Z4 n B r c)=false:=by
 unfold inV Zbv
 rw [List.any_eq_true]
 constructor
 ·rintro ⟨x,hx,h⟩
  obtain ⟨k,hk,e⟩:=List.mem_filterMap.mp hx
  split at e
  ·next hn =>
   cases e
   have hk':=List.mem_range.mp hk
   have:(k:Int)=t:=by simpa [eqV] using h
   subst this
   refine ⟨by exact Om.c6,by exact Om.c5 ‹_›,?_⟩
   have hn':(!inV (.int (k:Int)) (Z4 n B r c))=true:=hn
   rw [Bool.not_eq_true'] at hn'
   exact hn'
  ·cases e
 ·rintro ⟨h0,h1,h2⟩
  refine ⟨.int t,List.mem_filterMap.mpr ⟨t.toNat,List.mem_range.mpr (by exact Om.k138 h0 h1),?_⟩,by simp [eqV]⟩
  rw [Int.toNat_of_nonneg h0]
  exact if_pos (by show (!inV (.int t) (Z4 n B r c))=true; unfold inV; rw [h2]; rfl)
theorem ZaI {n:Nat} {B:List (List V)} (S:Sq n B) (L:Lat n B) {r c:Nat} (hr:r<n) (hc:c<n) {t:Int} (ht:inV (.int t) (Zbv n B r c)=true):Lat n (Jr B r c (.int t)):=by
 obtain ⟨h0,h1,h2⟩:=(Zek t).mp ht
 have hfree:∀ k,k<n->at2 B r k ≠ .int t/\at2 B k c ≠ .int t:=fun k hk=>by
  refine ⟨fun z=>?_,fun z=>?_⟩
  ·have:=(Zbf S hr hc t).mpr ⟨k,hk,.inl z⟩
   rw [h2] at this
   cases this
  ·have:=(Zbf S hr hc t).mpr ⟨k,hk,.inr z⟩
   rw [h2] at this
   cases this
 refine ⟨fun a b ha hb=>?_,fun a b b' ha hb hb' hne=>?_,fun a a' b ha ha' hb hne=>?_⟩
 ·rw [Yk S hr hc]
  split
  ·exact .inr ⟨t,rfl,h0,h1⟩
  ·exact L.ent a b ha hb
 ·rw [Yk S hr hc,Yk S hr hc]
  by_cases e1:a=r/\b=c
  ·rw [if_pos e1]
   by_cases e2:a=r/\b'=c
   ·exact absurd (e1.2.trans e2.2.symm) hne
   ·rw [if_neg e2]
    right
    intro z
    rw [e1.1] at z
    exact (hfree b' hb').1 z.symm
  ·rw [if_neg e1]
   by_cases e2:a=r/\b'=c
   ·rw [if_pos e2]
    right
    intro z
    rw [e2.1] at z
    exact (hfree b hb).1 z
   ·rw [if_neg e2]
    exact L.row a b b' ha hb hb' hne
 ·rw [Yk S hr hc,Yk S hr hc]
  by_cases e1:a=r/\b=c
  ·rw [if_pos e1]
   by_cases e2:a'=r/\b=c
   ·exact absurd (e1.1.trans e2.1.symm) hne
   ·rw [if_neg e2]
    right
    intro z
    rw [e1.2] at z
    exact (hfree a' ha').2 z.symm
  ·rw [if_neg e1]
   by_cases e2:a'=r/\b=c
   ·rw [if_pos e2]
    right
    intro z
    rw [e2.2] at z
    exact (hfree a ha).2 z
   ·rw [if_neg e2]
    exact L.col a a' b ha ha' hb hne
noncomputable def GridT (H:Hp) (a:Addr) (B:List (List V)):Prop:=∃ ps:List Addr,H a=some (.tup (ps.map V.ref))/\Paired (fun p row=>H p=some (.tup row)) ps B
theorem GridT.same {H H':Hp} {a:Addr} {B:List (List V)} (g:GridT H a B) (e:Same H H'):GridT H' a B :=
 let ⟨ps,h,r⟩:=g
 ⟨ps,e _ _ h,Paired.mapP r fun _ _ q=>e _ _ q⟩
theorem GridT.grid {K:PySem.W.Frag} {H:Hp} {a:Addr} {B:List (List V)} (g:GridT H a B):Grid K H a B :=
 let ⟨ps,h,r⟩:=g
 ⟨ps,SqT.of h,Paired.mapP r fun _ _ q=>SqT.of q⟩
theorem Grid.ent {K:PySem.W.Frag} {H:Hp} {a:Addr} {n:Nat} {B:List (List V)} (G:Grid K H a B) (S:Sq n B) {r:Nat} (hr:r<n):∃ (xs:List V) (p:Addr),SqT K H a xs/\atI xs (r:Int)=some (.ref p)/\SqT K H p (Zj B r)/\∀ c,c<n->atI (Zj B r) (c:Int)=some (at2 B r c):=by
 obtain ⟨xs,p,h1,h2,h3⟩:=G.rowAt S hr
 exact ⟨xs,p,h1,ZF h2,h3,fun c hc=>ZF (S.entAt hr hc).1⟩
theorem ZdM (xs:List V) {c:Nat} (h:c<=xs.length):Zal xs none (some (c:Int))=xs.take c:=by
 unfold Zal
 rw [HT.sIx_none,HT.sIx_nat,List.drop_zero,Nat.sub_zero]
 congr 1
 exact Om.m2 ‹_›
theorem ZaY (xs:List V) {c:Nat} (h:c<=xs.length):Zal xs (some (c:Int)) none=xs.drop c:=by
 unfold Zal
 rw [HT.sIx_none,HT.sIx_nat]
 have e:min c xs.length=c:=by exact Om.m2 ‹_›
 rw [e,List.take_of_length_le]
 rw [List.length_drop]
 exact Nat.le_refl _
theorem Jg {m c:Nat} (h:c<m):¬ (HT.sIx m 0 none=0/\HT.sIx m m (some (c:Int))=m):=by
 rw [HT.sIx_nat]
 exact Om.k184 h
theorem YI {m c:Nat} (h:c<m):¬ (HT.sIx m 0 (some ((c+1:Nat):Int))=0/\HT.sIx m m none=m):=by
 rw [HT.sIx_nat]
 exact Om.k183 h
inductive Ziv (K:PySem.W.Frag) (x:V) (y:V) (H:Hp) (Q:VK):Prop where
 | mk (a:Addr) (b:Addr) (xs:List V) (ys:List V) (_:x = .ref a) (_:y = .ref b) (_:H a=some (.tup xs)) (_:H b=some (.tup ys)) (_:xs.length+ys.length<=sizeLine) (_:∀ p H',Same H H'->H' p=some (.tup (xs++ys))->Q (.ref p) H'):Ziv K x y H Q
noncomputable def ZkG (K:PySem.W.Frag):R2:=fun x y H Q=>Ziv K x y H Q
theorem Jf {X:Cx} (K:PySem.W.Frag):OpR X (binaryOp .Add) (ZkG K):=by
 intro pins s σ H x y v u Q I rx ry h
 obtain ⟨a,b,xs,ys,rfl,rfl,ha,hb,hz,q⟩:=h
 cases rx
 cases ry
 by_cases hx:xs=[]
 ·subst hx
  obtain ⟨its,r1,p1,_⟩:=I.tuple (SqT.of ha)
  obtain ⟨its2,r2,p2,_⟩:=I.tuple (SqT.of hb)
  have e0:its=[]:=r1.nil_iff.mpr rfl
  subst e0
  obtain ⟨⟨cls,dd,data,sl⟩,ho,hc,n,hd⟩:=id p1
  obtain ⟨⟨cls2,dd2,data2,sl2⟩,ho2,hc2,n2,hd2⟩:=id p2
  simp only at hc hd hc2 hd2
  subst hc hd hc2 hd2
  exact concat_meets ⟨_,ho,rfl⟩ ⟨_,ho2,rfl⟩ noFill_tuple_add seq_tuple_add PySem.F.slot_tuple_add PySem.F.entry_tuple_add (PySem.F.args_tuple_add_2 _ _) (PyProof.Rows.tuple_addW0 a b _ _ n n2 dd dd2 sl sl2 rfl) ⟨ho,ho2,.ref b,H,I,rfl,q b H (Same.refl H) hb⟩
 ·refine ZiQ pins s σ H (.ref a) (.ref b) _ _ Q I rfl rfl ⟨a,b,xs,ys,rfl,rfl,SqT.of ha,SqT.of hb,hx,hz,fun e=>?_,fun _ p hp=>q p _ (Same.new hp) Zd⟩
  subst e
  rw [List.append_nil] at q
  exact q a H (Same.refl H) ha
end L2
namespace L2
open PySem PySem.Spec PyProof.Rows PySem.W
section
variable {prog:Program} {w:World} {A:Around} {E:Value->Shared->Prop} {K:PySem.W.Frag} {h:Heap} {g:Array GenState} {d:Drawn} {t:Nat} {os:OsState} {a C:Addr} {o:Obj}
theorem Zg3 (hx:h.get? a=some o) (hc:o.cls = .ref C) {M:Model}:Looks M h (typeOf (.ref a)) (.ref C):=by
 rw [<- hc]
 exact (Looks.ld hx).andThen .now
end
end L2
namespace L2
open PySem PySem.Spec PyProof.Rows
theorem ObjOk.there {P:Program} {w:World} {H:Hp} {h:Heap} {a:Addr} {o:HO} (x:ObjOk P w H h a o):∃ u,h.get? a=some u:=by
 cases o with
 | lst xs=>obtain ⟨_,_,_,_,e⟩:=x; exact ⟨_,e⟩
 | tup xs=>obtain ⟨_,_,_,o,e,_⟩:=x; exact ⟨_,e⟩
 | dK kvs=>obtain ⟨_,_,_,_,o,_,_,e,_⟩:=x; exact ⟨_,e⟩
 | dT kvs=>obtain ⟨_,_,_,_,o,_,_,e,_⟩:=x; exact ⟨_,e⟩
 | set S n=>obtain ⟨o,_,_,_,e,_⟩:=x; exact ⟨_,e⟩
 | ins C dx fs=>obtain ⟨_,_,_,e,_⟩:=x; exact ⟨_,e⟩
 | own y=>exact x
 | xd fs=>obtain ⟨_,⟨_,_,_,e,_⟩,_⟩:=x; exact ⟨_,e⟩
 | rng lo hi=>obtain ⟨_,_,_,e⟩:=x; exact ⟨_,e⟩
 | frz ob u=>obtain ⟨e,_⟩:=x; exact ⟨_,e⟩
 | tbl ps=>obtain ⟨_,e,_⟩:=x; exact ⟨_,e⟩
 | met f y=>exact ⟨_,x⟩
 | ext φ=>exact x.2.1
section
variable {X:Cx} {pins:List (Addr × Obj)} {σ:St} {H:Hp} {s:Shared}
theorem Inv.track {a:Addr} {o:HO} (I:Inv X pins σ H s) (hn:H a=none) (h0:∀ u,X.s₀.heap.get? a=some u->X.H₀ a=none->a∉X.ex->False) (hl:a≠X.env.locals) (hc:∀ x c,X.env.cells.lookup x=some c->c≠a)
  (hp:∀ p∈X.pn++pins,p.1≠a) (new:ObjOk X.prog X.w (upd H a o) s.heap a o):Inv X pins σ (upd H a o) s:=by
 refine ⟨I.ok,I.os,I.bare,⟨I.base.keep,I.base.slot,fun b u q n hx=>?_,I.base.there,fun b xs q=>?_,fun b ob u q=>?_,fun b ps q=>?_⟩,I.loc,I.cell,?_,fun x c e=>?_,fun p hp'=>?_,fun b u q=>?_,I.len⟩
 ·by_cases e:b=a
  ·subst e
   exact (h0 u q n hx).elim
  ·rw [Zh e]
   exact I.base.free b u q n hx
 ·have:=I.base.tups b xs q
  rw [Zh (Zm this hn)]
  exact this
 ·have:=I.base.frzs b ob u q
  rw [Zh (Zm this hn)]
  exact this
 ·obtain ⟨more,this⟩:=I.base.tbls b ps q
  refine ⟨more,?_⟩
  rw [Zh (Zm this hn)]
  exact this
 ·rw [Zh (Ne.symm hl)]
  exact I.free
 ·rw [Zh (hc x c e)]
  exact I.freeC x c e
 ·obtain ⟨z1,z2,z3⟩:=I.pin p hp'
  exact ⟨z1,by rw [Zh (hp p hp')]; exact z2,z3⟩
 ·by_cases e:b=a
  ·subst e
   rw [Zd] at q
   cases q
   exact new
  ·rw [Zh e] at q
   refine (I.hok b u q).stay (fun _ _ _ z=>z) (fun c z=>?_) fun c xs z=>?_
   ·rw [Zh (Zm z hn)]
    exact z
   ·rw [Zh (Zm z hn)]
    exact z
end
section
variable {X:Cx}
end
section
variable {X:Cx} {k:Nat} {f:Addr} {fd:FuncData} {ps:List Str} {sp:Sp} {x:Str} {p pos:Pos} {e:Expr} {es:List Expr} {t:TA}
end
end L2
namespace L2
open PySem PySem.Spec PyProof.Rows
inductive EqD (K:PySem.W.Frag) (H:Hp):Nat->V->V->Bool->Prop where
 | flat {d:Nat} {x y:V} (fx:ZK x=true) (fy:ZK y=true):EqD K H d x y (eqV x y)
 | tups {d:Nat} {a c:Addr} {xs ys:List V} {e:Nat->Bool} (h1:SqT K H a xs) (h2:SqT K H c ys) (he:∀ j x y,xs[j]? = some x->ys[j]? = some y->EqD K H d x y (e j)):EqD K H (d+1) (.ref a) (.ref c) (decide (xs.length=ys.length)&&(List.range xs.length).all fun j=>decide (j<ys.length)&&e j)
 | lsts {d:Nat} {a c:Addr} {xs ys:List V} {e:Nat->Bool} (h1:SqL K H a xs) (h2:SqL K H c ys) (he:xs.length=ys.length->∀ j x y,xs[j]? = some x->ys[j]? = some y->EqD K H d x y (e j)):EqD K H (d+1) (.ref a) (.ref c) (decide (xs.length=ys.length)&&(List.range xs.length).all fun j=>decide (j<ys.length)&&e j)
 | tupF {d:Nat} {a:Addr} {xs:List V} {y:V} (h1:SqT K H a xs) (fy:ZK y=true):EqD K H d (.ref a) y false
 | Ftup {d:Nat} {a:Addr} {xs:List V} {y:V} (h1:SqT K H a xs) (fy:ZK y=true):EqD K H d y (.ref a) false
 | lstF {d:Nat} {a:Addr} {xs:List V} {y:V} (h1:SqL K H a xs) (fy:ZK y=true):EqD K H d (.ref a) y false
 | Flst {d:Nat} {a:Addr} {xs:List V} {y:V} (h1:SqL K H a xs) (fy:ZK y=true):EqD K H d y (.ref a) false
 | tupL {d:Nat} {a c:Addr} {xs ys:List V} (h1:SqT K H a xs) (h2:SqL K H c ys):EqD K H d (.ref a) (.ref c) false
 | lstT {d:Nat} {a c:Addr} {xs ys:List V} (h1:SqL K H a xs) (h2:SqT K H c ys):EqD K H d (.ref a) (.ref c) false
theorem ZjR {A:Around} {s:Shared} {y x:V} {u v:Value} (ry:RelV y u) (rx:RelV x v) (fy:ZK y=true) (fx:ZK x=true):SeqAt.RcAt A s u v (eqV y x)/\SeqAt.RcNeAt A s u v (!eqV y x):=by
 cases y with
 | non =>
  cases ry
  cases x with
  | non=>cases rx; exact ⟨SeqAt.RcAt.none_none,SeqAt.RcNeAt.none_none⟩
  | bl b=>cases rx; exact ⟨SeqAt.RcAt.none_bool b,SeqAt.RcNeAt.none_bool b⟩
  | int b=>obtain ⟨t,rfl⟩:=rx; exact ⟨SeqAt.RcAt.none_int b t,SeqAt.RcNeAt.none_int b t⟩
  | str b=>obtain ⟨t,rfl⟩:=rx; exact ⟨SeqAt.RcAt.none_str b t,SeqAt.RcNeAt.none_str b t⟩
  | _=>exact absurd (show false=true from fx) Bool.false_ne_true
 | bl a =>
  cases ry
  cases x with
  | non=>cases rx; exact ⟨SeqAt.RcAt.bool_none a,SeqAt.RcNeAt.bool_none a⟩
  | bl b=>cases rx; exact ⟨SeqAt.RcAt.bool_bool a b,SeqAt.RcNeAt.bool_bool a b⟩
  | int b=>obtain ⟨t,rfl⟩:=rx; exact ⟨SeqAt.RcAt.bool_int a b t,SeqAt.RcNeAt.bool_int a b t⟩
  | str b=>obtain ⟨t,rfl⟩:=rx; exact ⟨SeqAt.RcAt.bool_str a b t,SeqAt.RcNeAt.bool_str a b t⟩
  | _=>exact absurd (show false=true from fx) Bool.false_ne_true
 | int a =>
  obtain ⟨t',rfl⟩:=ry
  cases x with
  | non=>cases rx; exact ⟨SeqAt.RcAt.int_none a t',SeqAt.RcNeAt.int_none a t'⟩
  | bl b=>cases rx; exact ⟨SeqAt.RcAt.int_bool a t' b,SeqAt.RcNeAt.int_bool a t' b⟩
  | int b=>obtain ⟨t,rfl⟩:=rx; exact ⟨SeqAt.RcAt.int_int a t' b t,SeqAt.RcNeAt.int_int a t' b t⟩
  | str b=>obtain ⟨t,rfl⟩:=rx; exact ⟨SeqAt.RcAt.int_str a t' b t,SeqAt.RcNeAt.int_str a t' b t⟩
  | _=>exact absurd (show false=true from fx) Bool.false_ne_true
 | str a =>
  obtain ⟨t',rfl⟩:=ry
  cases x with
  | non=>cases rx; exact ⟨SeqAt.RcAt.str_none a t',SeqAt.RcNeAt.str_none a t'⟩
  | bl b=>cases rx; exact ⟨SeqAt.RcAt.str_bool a t' b,SeqAt.RcNeAt.str_bool a t' b⟩
  | int b=>obtain ⟨t,rfl⟩:=rx; exact ⟨SeqAt.RcAt.str_int a t' b t,SeqAt.RcNeAt.str_int a t' b t⟩
  | str b=>obtain ⟨t,rfl⟩:=rx; exact ⟨SeqAt.RcAt.str_str a t' b t,SeqAt.RcNeAt.str_str a t' b t⟩
  | _=>exact absurd (show false=true from fx) Bool.false_ne_true
 | _=>exact absurd (show false=true from fy) Bool.false_ne_true
section
variable {A:Around} {s:Shared} {l:Addr} {its:Array Value}
theorem Zfy (hl:s.heap.IsTuple l its) {y:V} {v:Value} (r:RelV y v) (fy:ZK y=true) (hu:A.units<cLine) :
  (SeqAt.EqAt A s (.ref l) v false/\SeqAt.RcAt A s (.ref l) v false/\SeqAt.RcNeAt A s (.ref l) v true)/\(SeqAt.EqAt A s v (.ref l) false/\SeqAt.RcAt A s v (.ref l) false/\SeqAt.RcNeAt A s v (.ref l) true):=by
 cases y with
 | non=>cases r; exact ⟨⟨.tuple_none hl hu,.tuple_none hl hu,.tuple_none hl hu⟩,.none_tuple hl hu,.none_tuple hl hu,.none_tuple hl hu⟩
 | bl b=>cases r; exact ⟨⟨.tuple_bool b hl hu,.tuple_bool b hl hu,.tuple_bool b hl hu⟩,.bool_tuple b hl hu,.bool_tuple b hl hu,.bool_tuple b hl hu⟩
 | int b=>obtain ⟨t,rfl⟩:=r; exact ⟨⟨.tuple_int b t hl hu,.tuple_int b t hl hu,.tuple_int b t hl hu⟩,.int_tuple b t hl hu,.int_tuple b t hl hu,.int_tuple b t hl hu⟩
 | str b=>obtain ⟨t,rfl⟩:=r; exact ⟨⟨.tuple_str b t hl hu,.tuple_str b t hl hu,.tuple_str b t hl hu⟩,.str_tuple b t hl hu,.str_tuple b t hl hu,.str_tuple b t hl hu⟩
 | _=>exact absurd (show false=true from fy) Bool.false_ne_true
theorem ZfO (hl:s.heap.IsList l its) {y:V} {v:Value} (r:RelV y v) (fy:ZK y=true) (hu:A.units<cLine) :
  (SeqAt.EqAt A s (.ref l) v false/\SeqAt.RcAt A s (.ref l) v false/\SeqAt.RcNeAt A s (.ref l) v true)/\(SeqAt.EqAt A s v (.ref l) false/\SeqAt.RcAt A s v (.ref l) false/\SeqAt.RcNeAt A s v (.ref l) true):=by
 cases y with
 | non=>cases r; exact ⟨⟨.list_none hl hu,.list_none hl hu,.list_none hl hu⟩,.none_list hl hu,.none_list hl hu,.none_list hl hu⟩
 | bl b=>cases r; exact ⟨⟨.list_bool b hl hu,.list_bool b hl hu,.list_bool b hl hu⟩,.bool_list b hl hu,.bool_list b hl hu,.bool_list b hl hu⟩
 | int b=>obtain ⟨t,rfl⟩:=r; exact ⟨⟨.list_int b t hl hu,.list_int b t hl hu,.list_int b t hl hu⟩,.int_list b t hl hu,.int_list b t hl hu,.int_list b t hl hu⟩
 | str b=>obtain ⟨t,rfl⟩:=r; exact ⟨⟨.list_str b t hl hu,.list_str b t hl hu,.list_str b t hl hu⟩,.str_list b t hl hu,.str_list b t hl hu,.str_list b t hl hu⟩
 | _=>exact absurd (show false=true from fy) Bool.false_ne_true
end
theorem Zi2 {n m:Nat} {e:Nat->Bool}:((List.range (min n m)).all e&&(n==m))=(decide (n=m)&&(List.range n).all fun j=>decide (j<m)&&e j):=by
 by_cases h:n=m
 ·subst h
  rw [Nat.min_self,beq_self_eq_true,Bool.and_true,decide_eq_true rfl,Bool.true_and,Bool.eq_iff_iff,List.all_eq_true,List.all_eq_true]
  constructor
  ·intro h j hj
   rw [decide_eq_true (List.mem_range.mp hj),Bool.true_and]
   exact h j hj
  ·intro h j hj
   have:=h j hj
   rw [Bool.and_eq_true] at this
   exact this.2
 ·rw [decide_eq_false h,Bool.false_and,show (n==m)=false by simpa using h,Bool.and_false]
theorem ZdR {n:Nat} {e:Nat->Bool}:((List.range n).all fun j=>decide (j<n)&&e j)=(List.range n).all e:=by
 rw [Bool.eq_iff_iff,List.all_eq_true,List.all_eq_true]
 constructor
 ·intro h j hj
  have:=h j hj
  rw [Bool.and_eq_true] at this
  exact this.2
 ·intro h j hj
  rw [decide_eq_true (List.mem_range.mp hj),Bool.true_and]
  exact h j hj
section
variable {X:Cx} {pins:List (Addr × Obj)} {σ:St} {H:Hp} {s:Shared}
theorem EqD.refl' (I:Inv X pins σ H s) {d:Nat} {x y:V} {b:Bool} (h:EqD X.K H d x y b):x=y->b=true:=by
 induction h with
 | flat fx fy=>rintro rfl; exact Zem fx
 | tups h1 h2 he ih =>
  intro e
  cases e
  have:=I.tuple_inj h1 h2
  subst this
  rw [decide_eq_true rfl,Bool.true_and,ZdR,List.all_eq_true]
  intro j hj
  have hj':=List.mem_range.mp hj
  exact ih j _ _ (List.getElem?_eq_getElem hj') (List.getElem?_eq_getElem hj') rfl
 | lsts h1 h2 he ih =>
  intro e
  cases e
  have:=I.list_inj h1 h2
  subst this
  rw [decide_eq_true rfl,Bool.true_and,ZdR,List.all_eq_true]
  intro j hj
  have hj':=List.mem_range.mp hj
  exact ih rfl j _ _ (List.getElem?_eq_getElem hj') (List.getElem?_eq_getElem hj') rfl
 | tupF h1 fy=>rintro rfl; cases fy
 | Ftup h1 fy=>rintro rfl; cases fy
 | lstF h1 fy=>rintro rfl; cases fy
 | Flst h1 fy=>rintro rfl; cases fy
 | tupL h1 h2 =>
  intro e
  cases e
  obtain ⟨_,_,p,_⟩:=I.tuple h1
  obtain ⟨_,_,q,_⟩:=I.list h2
  obtain ⟨o,ho,hc,_⟩:=p
  obtain ⟨o',_,ho',hc',_⟩:=q
  rw [ho] at ho'
  cases ho'
  rw [hc] at hc'
  exact absurd hc' (by decide)
 | lstT h1 h2 =>
  intro e
  cases e
  obtain ⟨_,_,p,_⟩:=I.tuple h2
  obtain ⟨_,_,q,_⟩:=I.list h1
  obtain ⟨o,ho,hc,_⟩:=p
  obtain ⟨o',_,ho',hc',_⟩:=q
  rw [ho] at ho'
  cases ho'
  rw [hc] at hc'
  exact absurd hc' (by decide)
theorem Vals.at {xs:List V} {its:List Value} (r:Vals xs its) {j:Nat} (h:j<its.toArray.size):∃ x,xs[j]? = some x/\RelV x its.toArray[j]:=by
 rw [List.size_toArray] at h
 have hx:j<xs.length:=by rw [r.length]; exact h
 have e1:xs[j]? = some xs[j]:=List.getElem?_eq_getElem hx
 obtain ⟨u,hu,ru⟩:=r.get e1
 refine ⟨_,e1,?_⟩
 rw [List.getElem?_eq_getElem h] at hu
 cases hu
 simpa using ru
theorem EqD.all (I:Inv X pins σ H s) {d:Nat} {x y:V} {b:Bool} (h:EqD X.K H d x y b):∀ {A:Around} {u v:Value},RelV x u->RelV y v->A.units+d<cLine ->
  SeqAt.EqAt A s u v b/\SeqAt.RcAt A s u v b/\SeqAt.RcNeAt A s u v (!b):=by
 induction h with
 | flat fx fy=>exact fun {A u v} rx ry hu=>⟨Zfo rx ry fx fy,ZjR rx ry fx fy⟩
 | @tups d a c xs ys e h1 h2 he ih =>
  intro A u v rx ry hu
  cases rx
  cases ry
  obtain ⟨its,r1,p1,_⟩:=I.tuple h1
  obtain ⟨its2,r2,p2,_⟩:=I.tuple h2
  have el:∀ j (q1:j<its.toArray.size) (q2:j<its2.toArray.size),SeqAt.EqAt A.in1 s its.toArray[j] its2.toArray[j] (e j):=fun j q1 q2=>by
   obtain ⟨x,e1,rx⟩:=r1.at q1
   obtain ⟨y,e2,ry⟩:=r2.at q2
   exact (ih j x y e1 e2 rx ry (by show A.units+1+d<cLine; exact Om.k182 hu)).1
  have sz:its.toArray.size=xs.length/\its2.toArray.size=ys.length:=by
   rw [List.size_toArray,List.size_toArray,r1.length,r2.length]
   exact ⟨rfl,rfl⟩
  have g1:=SeqAt.RcAt.tuples (A:=A) p1 p2 (by exact Om.k181 hu) el
  have g2:=SeqAt.RcNeAt.tuples (A:=A) p1 p2 (by exact Om.k181 hu) el
  rw [sz.1,sz.2,Zi2] at g1 g2
  refine ⟨?_,g1,g2⟩
  by_cases hac:a=c
  ·subst hac
   rw [EqD.refl' I (.tups h1 h2 he) rfl]
   exact SeqAt.EqAt.same _
  ·exact SeqAt.EqAt.of_refs hac g1
 | @lsts d a c xs ys e h1 h2 he ih =>
  intro A u v rx ry hu
  cases rx
  cases ry
  obtain ⟨its,r1,p1,_⟩:=I.list h1
  obtain ⟨its2,r2,p2,_⟩:=I.list h2
  have sz:its.toArray.size=xs.length/\its2.toArray.size=ys.length:=by
   rw [List.size_toArray,List.size_toArray,r1.length,r2.length]
   exact ⟨rfl,rfl⟩
  have g:SeqAt.RcAt A s (.ref a) (.ref c) (decide (xs.length=ys.length)&&(List.range xs.length).all fun j=>decide (j<ys.length)&&e j)/\SeqAt.RcNeAt A s (.ref a) (.ref c) (!(decide (xs.length=ys.length)&&(List.range xs.length).all fun j=>decide (j<ys.length)&&e j)):=by
   by_cases hl:xs.length=ys.length
   ·have el:∀ j (q1:j<its.toArray.size) (q2:j<its2.toArray.size),SeqAt.EqAt A.in1 s its.toArray[j] its2.toArray[j] (e j):=fun j q1 q2=>by
     obtain ⟨x,e1,rx⟩:=r1.at q1
     obtain ⟨y,e2,ry⟩:=r2.at q2
     exact (ih hl j x y e1 e2 rx ry (by show A.units+1+d<cLine; exact Om.k182 hu)).1
    have g1:=SeqAt.RcAt.lists (A:=A) p1.isList p2.isList (by rw [sz.1,sz.2,hl]) (by exact Om.k181 hu) el
    have g2:=SeqAt.RcNeAt.lists (A:=A) p1.isList p2.isList (by rw [sz.1,sz.2,hl]) (by exact Om.k181 hu) el
    rw [sz.1] at g1 g2
    rw [decide_eq_true hl,Bool.true_and,<- hl,ZdR]
    exact ⟨g1,g2⟩
   ·rw [decide_eq_false hl,Bool.false_and]
    have hz:(its.toArray.size != its2.toArray.size)=true:=by rw [sz.1,sz.2]; simpa using hl
    exact ⟨.lists_lengths p1.isList p2.isList hz (by exact Om.k181 hu),.lists_lengths p1.isList p2.isList hz (by exact Om.k181 hu)⟩
  refine ⟨?_,g⟩
  by_cases hac:a=c
  ·subst hac
   rw [EqD.refl' I (.lsts h1 h2 he) rfl]
   exact SeqAt.EqAt.same _
  ·exact SeqAt.EqAt.of_refs hac g.1
 | tupF h1 fy =>
  intro A u v rx ry hu
  cases rx
  obtain ⟨its,r1,p1,_⟩:=I.tuple h1
  exact (Zfy p1 ry fy (by exact Om.k180 hu)).1
 | Ftup h1 fy =>
  intro A u v rx ry hu
  cases ry
  obtain ⟨its,r1,p1,_⟩:=I.tuple h1
  exact (Zfy p1 rx fy (by exact Om.k180 hu)).2
 | lstF h1 fy =>
  intro A u v rx ry hu
  cases rx
  obtain ⟨its,r1,p1,_⟩:=I.list h1
  exact (ZfO p1.isList ry fy (by exact Om.k180 hu)).1
 | Flst h1 fy =>
  intro A u v rx ry hu
  cases ry
  obtain ⟨its,r1,p1,_⟩:=I.list h1
  exact (ZfO p1.isList rx fy (by exact Om.k180 hu)).2
 | tupL h1 h2 =>
  intro A u v rx ry hu
  cases rx
  cases ry
  obtain ⟨its,r1,p1,_⟩:=I.tuple h1
  obtain ⟨its2,r2,p2,_⟩:=I.list h2
  exact ⟨.tuple_list p1 p2.isList (by exact Om.k180 hu),.tuple_list p1 p2.isList (by exact Om.k180 hu),.tuple_list p1 p2.isList (by exact Om.k180 hu)⟩
 | lstT h1 h2 =>
  intro A u v rx ry hu
  cases rx
  cases ry
  obtain ⟨its,r1,p1,_⟩:=I.list h1
  obtain ⟨its2,r2,p2,_⟩:=I.tuple h2
  exact ⟨.list_tuple p1.isList p2 (by exact Om.k180 hu),.list_tuple p1.isList p2 (by exact Om.k180 hu),.list_tuple p1.isList p2 (by exact Om.k180 hu)⟩
end
section
variable {X:Cx}
end
end L2
namespace L2
open PySem PySem.Spec PyProof.Rows
section
variable {prog:Program} {w:World} {A:Around} {E:Value->Shared->Prop}
end
end L2
namespace L2
open PySem PySem.Spec PyProof.Rows
theorem EqD.cast {K:PySem.W.Frag} {H:Hp} {d:Nat} {x y:V} {b b':Bool} (h:EqD K H d x y b) (e:b=b'):EqD K H d x y b':=e ▸ h
theorem Zfn {xs ys:List V}:(decide (xs.length=ys.length)&&(List.range xs.length).all fun j=>decide (j<ys.length)&&eqV (xs.getD j .non) (ys.getD j .non))=Jx xs ys:=by
 by_cases hl:xs.length=ys.length
 ·rw [decide_eq_true hl,Bool.true_and,<- hl,ZdR,<- ZaD hl]
  refine Bool.eq_iff_iff.mpr ?_
  rw [List.all_eq_true,List.all_eq_true]
  refine forall_congr' fun j=>forall_congr' fun hj=>?_
  have h1:=List.mem_range.mp hj
  have h2:j<ys.length:=by exact Om.a2 ‹_› ‹_›
  rw [List.getElem?_eq_getElem h1,List.getElem?_eq_getElem h2,List.getD_eq_getElem?_getD,List.getD_eq_getElem?_getD,List.getElem?_eq_getElem h1,List.getElem?_eq_getElem h2]
  rfl
 ·unfold Jx
  rw [decide_eq_false hl,Bool.false_and,Bool.false_and]
theorem ZfW {xs:List V} (f:xs.all ZK=true) {j:Nat} {x:V} (h:xs[j]? = some x):ZK x=true:=List.all_eq_true.mp f _ (List.mem_of_getElem? h)
section
variable {K:PySem.W.Frag} {H:Hp} {d:Nat} {a c:Addr} {xs ys:List V}
theorem ZfY (h1:SqT K H a xs) (h2:SqT K H c ys) (f1:xs.all ZK=true) (f2:ys.all ZK=true):EqD K H (d+1) (.ref a) (.ref c) (Jx xs ys):=by
 rw [<- Zfn]
 refine .tups h1 h2 fun j x y e1 e2=>?_
 have g1:xs.getD j .non=x:=by rw [List.getD_eq_getElem?_getD,e1]; rfl
 have g2:ys.getD j .non=y:=by rw [List.getD_eq_getElem?_getD,e2]; rfl
 rw [g1,g2]
 exact .flat (ZfW f1 e1) (ZfW f2 e2)
theorem Zir {n:Nat}:(decide (n=n)&&(List.range n).all fun j=>decide (j<n)&&true)=true:=by
 rw [decide_eq_true rfl,Bool.true_and,List.all_eq_true]
 intro j hj
 rw [decide_eq_true (List.mem_range.mp hj)]
 rfl
theorem Zif (h1:SqT K H a xs) (h2:SqT K H c ys) (hl:xs.length=ys.length) (he:∀ (j:Nat) x y,xs[j]? = some x->ys[j]? = some y->EqD K H d x y true):EqD K H (d+1) (.ref a) (.ref c) true:=by
 have:=EqD.tups (e:=fun _=>true) h1 h2 he
 rw [<- hl,Zir] at this
 exact this
theorem Zih {B:List (List V)} (g1:Grid K H a B) (g2:Grid K H c B) (hf:∀ r∈B,r.all ZK=true):EqD K H (d+2) (.ref a) (.ref c) true:=by
 obtain ⟨ps,h1,p1⟩:=g1
 obtain ⟨qs,h2,p2⟩:=g2
 refine Zif h1 h2 (by rw [List.length_map,List.length_map,p1.length,p2.length]) fun j x y e1 e2=>?_
 rw [List.getElem?_map] at e1 e2
 cases z1:ps[j]? with
 | none=>rw [z1] at e1; cases e1
 | some p =>
  cases z2:qs[j]? with
  | none=>rw [z2] at e2; cases e2
  | some q =>
   rw [z1] at e1
   rw [z2] at e2
   cases e1
   cases e2
   obtain ⟨row,b1,s1⟩:=Paired.getL p1 z1
   obtain ⟨row',b2,s2⟩:=Paired.getL p2 z2
   rw [b1] at b2
   cases b2
   have f:=hf row (List.mem_of_getElem? b1)
   exact (ZfY s1 s2 f f).cast (Zc3 f)
end
end L2
namespace L2
open PySem PySem.Spec PyProof.Rows
structure Dfn (K:PySem.W.Frag) (mg:Str->Option Value) (x:Str) (st:Stmt) (ps:List Str) (f:Addr) (fd:FuncData):Prop where
 F:Fun K x x st f fd
 b:Binds K fd ps []
 m:mg x=some (.ref f)
section
variable {X:Cx}
theorem ZbA (K:PySem.W.Frag) (h:X.K=K:=by rfl):JV X (.type "tuple") (fun xs H Q=>∃ p ys,xs=[.ref p]/\((SqL K H p ys/\∀ l,H l=none->Q (.ref l) (upd H l (.tup ys)))\/(SqT K H p ys/\Q (.ref p) H))):=by subst h; exact ZcD
end
end L2
namespace L2
open PySem PySem.Spec PyProof.Rows
theorem ZgH {o:Obj} {f:Array Value->Array Value}:(o.mapFields f).dict=o.dict:=by
 unfold Obj.mapFields
 split <;> rfl
noncomputable def Jy (h:Heap) (e:Addr) (dx:Option Addr):Prop:=∃ ob,h.get? e=some ob/\ob.dict=dx
section
variable {M:Model} {A:Around} {E:Value->Shared->Prop} {s:Shared}
theorem Zij {base:Heap} {env:Env} {outer:List Env} {L e:Addr} {oe:Obj} {vs:Array Value} {head a0:Value} {hn:Bool} {Q:Unit->Shared->Prop}
  (hfr:A.frames=some (env::outer)) (hl:s.heap.FunFrames base (env::outer)) (hf:env.frame=some L) (he:s.heap.get? e=some oe) (hkb:base.StaysIn s.heap) (hen:base.get? e=none) (hd:oe.data = .fields vs) (hsz:1<vs.size) (h0:vs[0]? = some a0)
  (h:∀ h',Heap.NotedW base (env::outer) e oe.cls a0 (rawInt L) s.heap h'->Jy h' e oe.dict->Q () { s with heap:=h' }) :
  wpAny M A (do let a <- frameOf env; let pl <- entryPlaceOf L hn; let b <- EntryCells.newEntry head a .none (rawInt L) .none pl; setField (.ref e) 1 b) Q E s:=by
 have nfr:e∉(env::outer).filterMap (·.frame):=fun hm=>by
  obtain ⟨_,o,ho,z⟩:=hl.mem hm
  rw [he] at ho
  cases ho
  exact z vs hd
 refine wpAny_bind (wpAny_frameOf_fun hfr hl hf fun h₁ k₁=>wpAny_bind (wpAny_entryPlaceOf fun pl hpl=>?_))
 unfold EntryCells.newEntry newFields
 refine wpAny_bind (wpAny_newObj_type ?_ (hpl.sizeOk5 _ _ _ _ _))
 have e₁:h₁.get? e=some oe:=(k₁.2.1 e nfr).trans he
 have b₁:base.StaysIn h₁:=fun b o q=>(k₁.2.1 b fun hm=>by rw [(hl.mem hm).1] at q; cases q).trans (hkb b o q)
 generalize hT:({ cls:=.type "traceback",dict:=none,data:=.fields ([head,.ref L,.none,rawInt L,.none]++(if pl.isEmpty then List.replicate 6 Value.none else pl)).toArray }:Obj)=oT
 have e₂:=Heap.get?_push_of_some (h:=h₁) oT e₁
 refine wpAny_setField e₂ hd hsz ?_
 have ne:h₁.objs.size≠e:=Nat.ne_of_gt (Heap.lt_size e₁)
 have d₃:=Obj.data_mapFields hd (·.setIfInBounds 1 (Value.ref h₁.objs.size))
 have e₃:=Heap.get?_update_self (Obj.mapFields (·.setIfInBounds 1 (Value.ref h₁.objs.size))) e₂ (Obj.isFreed_of_fields d₃)
 have t₃:=(Heap.get?_update_other (h₁.push oT) (Obj.mapFields (·.setIfInBounds 1 (Value.ref h₁.objs.size))) (Ne.symm ne)).trans (Heap.get?_push_size h₁ (by rw [<- hT]; rfl))
 have kp:∀ b o,b≠e->h₁.get? b=some o->((h₁.push oT).update e (Obj.mapFields (·.setIfInBounds 1 (Value.ref h₁.objs.size)))).get? b=some o:=fun b o z q=>by
  rw [Heap.get?_update_other _ _ (Ne.symm z)]
  exact Heap.get?_push_of_some _ q
 have nrec:∀ b o,s.heap.get? b=some o->(∀ ws,o.data ≠ .fields ws)->b≠e:=fun b o q z y=>by
  rw [y,he] at q
  cases q
  exact z vs hd
 refine h _ ⟨fun b o q=>kp b o (fun y=>by rw [y,hen] at q; cases q) (b₁ b o q),hl.of_keeps fun b o q z=>?_,⟨_,_,h₁.objs.size,_,_,e₃,⟨Obj.cls_mapFields _ _,by rw [Array.getElem?_setIfInBounds_ne (by decide)]; exact h0⟩,d₃,by simp [hsz],b₁.fresh,ne,t₃,by rw [<- hT],?_⟩,fun b o q z=>?_⟩ ⟨_,e₃,ZgH⟩
 ·obtain ⟨sl,y⟩:=k₁.2.2 b o q
  exact ⟨_,kp b _ (nrec b o q z) y,rfl⟩
 ·first
  | (simp; done)
  | (rcases hpl with rfl | ⟨_,_,_,_,_,_,_,rfl⟩ <;> simp)
 ·obtain ⟨sl,y⟩:=k₁.2.2 b o q
  exact ⟨sl,kp b _ (nrec b o q z) y⟩
theorem ZdJ {base:Heap} {l:List Env} {e:Addr} {cls a0 fl:Value} {dx:Option Addr} {Q:Unit->Shared->Prop} (hkb:base.StaysIn s.heap) (hen:base.get? e=none) (hl:s.heap.FunFrames base l) (ht:s.heap.TracedAtW base e cls a0 fl) (hx:Jy s.heap e dx)
  (h:∀ h',Heap.FlyingW base l e cls a0 h'->s.heap.UpToSlots h'->Jy h' e dx->Q () { s with heap:=h' }):wpAny M A (setFlight (.ref e) none) Q E s:=by
 obtain ⟨oe,vs,T,oT,ts,he,hc,hd,h1,hnT,hTe,hT,hdT,h3⟩:=ht
 obtain ⟨ob,q,hdx⟩:=hx
 rw [he] at q
 cases q
 have s3:3<ts.size:=(Array.getElem?_eq_some_iff.mp h3).1
 have ot:∀ b,b≠T->(s.heap.update T (Obj.mapFields (·.setIfInBounds 3 ((none:Option Addr).elim Value.none fun f=>rawInt f)))).get? b=s.heap.get? b:=fun b z=>Heap.get?_update_other _ _ (Ne.symm z)
 have nrec:∀ b o,s.heap.get? b=some o->(∀ ws,o.data ≠ .fields ws)->b≠T:=fun b o q z y=>by
  rw [y,hT] at q
  cases q
  exact z ts hdT
 unfold setFlight
 refine wpAny_bind (wpAny_field he hd h1 ?_)
 rw [if_pos (show (Value.ref T != Value.none)=true by simp)]
 refine wpAny_setField hT hdT s3 (h _ ⟨fun b o q=>(ot b fun y=>by rw [y,hnT] at q; cases q).trans (hkb b o q),hen,hl.of_keeps fun b o q z=>⟨o,(ot b (nrec b o q z)).trans q,rfl⟩,
  ⟨oe,vs,T,_,_,(ot e (Ne.symm hTe)).trans he,hc,hd,h1,hnT,hTe,Heap.get?_update_self _ hT (Obj.isFreed_of_fields (Obj.data_mapFields hdT _)),Obj.data_mapFields hdT _,by simp [s3]⟩⟩ (fun b o q z=>⟨o.slots,(ot b (nrec b o q z)).trans q⟩) ⟨oe,(ot e (Ne.symm hTe)).trans he,hdx⟩)
theorem Zj7 {base:Heap} {env:Env} {outer:List Env} {L e:Addr} {oe:Obj} {vs:Array Value} {a0:Value} {Q:Unit->Shared->Prop}
  (hfr:A.frames=some (env::outer)) (hl:s.heap.FunFrames base (env::outer)) (hf:env.frame=some L) (he:s.heap.get? e=some oe) (hkb:base.StaysIn s.heap) (hen:base.get? e=none) (hd:oe.data = .fields vs) (h1:vs[1]? = some .none) (h0:vs[0]? = some a0)
  (h:∀ h',Heap.FlyingW base outer e oe.cls a0 h'->s.heap.UpToSlots h'->Jy h' e oe.dict->Q () { s with heap:=h' }):wpAny M A (leaving env (.ref e)) Q E s:=by
 unfold leaving noteFrame
 simp only [hf]
 refine wpAny_bind (wpAny_bind (wpAny_field he hd h1 ?_))
 rw [if_neg (by decide)]
 refine Zij hfr hl hf he hkb hen hd (Array.getElem?_eq_some_iff.mp h1).1 h0 fun h₁ ⟨n1,n2,n3,n4⟩ d₁=>?_
 refine ZdJ (s:={ s with heap:=h₁ }) n1 hen n2 n3 d₁ fun h₂ ⟨f1,f2,⟨_,_,f3⟩,f4⟩ up d₂=>h h₂ ⟨f1,f2,f3,f4⟩ (Heap.UpToSlots.trans n4 up) d₂
theorem Zjx {base:Heap} {env:Env} {outer:List Env} {L e:Addr} {cls a0:Value} {dx:Option Addr} {Q:Unit->Shared->Prop} (hfr:A.frames=some (env::outer)) (hf:env.frame=some L) (hfl:Heap.FlyingW base (env::outer) e cls a0 s.heap) (hx:Jy s.heap e dx)
  (h:∀ h',Heap.HeldW base (env::outer) e cls a0 L h'->s.heap.UpToSlots h'->Jy h' e dx->Q () { s with heap:=h' }):wpAny M A (noteFrame (.ref e) env) Q E s:=by
 obtain ⟨hkb,hen,hl,oe,vs,T,oT,ts,he,⟨hc,h0⟩,hd,h1,hnT,hTe,hT,hdT,h3⟩:=hfl
 obtain ⟨ob,q,hdx⟩:=hx
 rw [he] at q
 cases q
 subst hc hdx
 unfold noteFrame
 simp only [hf]
 refine wpAny_bind (wpAny_field he hd h1 ?_)
 rw [if_pos (show (Value.ref T != Value.none)=true by simp)]
 refine wpAny_bind (wpAny_field hT hdT h3 ?_)
 rw [if_neg (show ¬ ((Value.none==rawInt L)=true) by simp [rawInt])]
 refine wpAny_bind (wpAny_setField hT hdT (Array.getElem?_eq_some_iff.mp h3).1 ?_)
 have ot:∀ b,b≠T->(s.heap.update T (Obj.mapFields (·.setIfInBounds 3 Value.none))).get? b=s.heap.get? b:=fun b z=>Heap.get?_update_other _ _ (Ne.symm z)
 have nrec:∀ b o,s.heap.get? b=some o->(∀ ws,o.data ≠ .fields ws)->b≠T:=fun b o q z y=>by
  rw [y,hT] at q
  cases q
  exact z ts hdT
 refine Zij (s:={ s with heap:=s.heap.update T (Obj.mapFields (·.setIfInBounds 3 Value.none)) }) hfr (hl.of_keeps fun b o q z=>⟨o,(ot b (nrec b o q z)).trans q,rfl⟩) hf ((ot e (Ne.symm hTe)).trans he) (fun b o q=>(ot b fun y=>by rw [y,hnT] at q; cases q).trans (hkb b o q)) hen hd (Array.getElem?_eq_some_iff.mp h1).1 h0 fun h' ⟨n1,n2,n3,n4⟩ d'=>?_
 exact h h' ⟨n1,hen,n2,n3⟩ (fun b o q z=>n4 b o ((ot b (nrec b o q z)).trans q) z) d'
end
end L2
namespace L2
open PySem PySem.Spec PyProof.Rows PySem.W
noncomputable abbrev Zft:List Value:=[.type "ValueError",.type "Exception",.type "BaseException",.type "object"]
noncomputable def Zaj (K:Frag) (C fI:Addr) (bmB:List Value) (newId:String):Bool:=match K.lookup C with
 | some ⟨.type "type",_,.cls cd,sl⟩=>(match cd.mro,sl.toList with
  | .ref C'::bm,[_,_,_,_,some (.builtin n),_]=>(C'==C&&n==newId && !cd.hasDel&&cd.hasDict&&tailIn K bmB bm&&nsOkIn K cd.ns)&&nsIn K cd.ns "__init__" == some (some (.ref fI))
  | _,_=>false)
 | _=>false
theorem Zck {K:Frag} {h:Heap} {C fI:Addr} {bmB:List Value} {newId:String} (X:K.In h) (q:Zaj K C fI bmB newId=true) :
  ∃ bm N nm qn bs sn sub ab col dd k0 k1 k2 k3 k5 mN,h.get? C=some (excClassObj nm qn C N bs bm true sn sub ab col dd k0 k1 k2 k3 k5 newId)/\h.Ns N mN/\mN "__init__" = some (.ref fI)/\OwnTail h bmB bm:=by
 unfold Zaj at q
 split at q
 ·next dd cd sl ho =>
  split at q
  ·next C' bm k0 k1 k2 k3 n k5 hm hs =>
   simp only [Bool.and_eq_true,beq_iff_eq,Bool.not_eq_true'] at q
   obtain ⟨⟨⟨⟨⟨⟨e1,e2⟩,hdel⟩,hdc⟩,ht⟩,hok⟩,hni⟩:=q
   subst e1 e2
   obtain ⟨nm,bs,mro,ns,qn,hd,sn,sub,ab,col,del⟩:=cd
   dsimp only at hm hdel hok hni hdc
   subst hm hdel hdc
   have esl:sl = #[k0,k1,k2,k3,some (.builtin n),k5]:=by
    cases sl
    simp only at hs
    rw [hs]
   subst esl
   have G:h.Ns ns (h.nsMap ns):=.of_isNs (isNs_of_in X hok)
   refine ⟨bm,ns,nm,qn,bs,sn,sub,ab,col,dd,k0,k1,k2,k3,k5,_,X _ _ ho,G,?_,tail_of_in X ht⟩
   obtain ⟨o,es,ep,ho',hd',_,hf⟩:=G
   unfold nsIn at hni
   split at hni
   ·next q' =>
    have:=X _ _ q'
    rw [ho'] at this
    cases this
    cases hd'
    split at hni
    ·next en he =>
     have hv:en.val = .ref fI:=Option.some.inj (Option.some.inj hni)
     rw [<- hf]
     unfold nsFind findBy
     rw [<- Array.find?_toList,he,Option.map_some,hv]
    ·split at hni <;> cases hni
   ·cases hni
  ·cases q
 ·cases q
section
variable {prog:Program} {w:World} {A:Around} {E:Value->Shared->Prop} {h:Heap} {g:Array GenState} {d:Drawn} {t:Nat} {os:OsState}
variable {nm q:Str} {C N:Addr} {bs bm bmB:List Value} {hdct:Bool} {sn:List Str} {sub:List Value} {ab:Bool} {col:Option Bool} {dd:Option Addr} {k0 k1 k2 k3 k5:Option Value} {B newId initId:String}
theorem Zgl (F:ExcBaseFacts B newId initId bmB) (T:OwnTail h bmB bm) {mN:Str->Option Value} {rest:List Value} {fI:Addr} {oI:Obj} {Q:Fin->Shared->Prop}
  (hC:h.get? C=some (excClassObj nm q C N bs bm hdct sn sub ab col dd k0 k1 k2 k3 k5 newId)) (hn:h.Ns N mN) (hi:mN "__init__" = some (.ref fI)) (hfI:h.get? fI=some oI) (hfc:oI.cls = .type "function")
  (hq:∀ h' e,Heap.MadeExcOf h h' e (.ref C) rest->wpAny (model prog w) A (call (.ref fI) (.ref e::rest)) (fun r s'=>r = .none/\Q (.done (.ret (.ref e))) s') E ⟨h',g,d,t,os⟩) (hz:rest.length<=sizeLine) :
  wpAny (model prog w) A (Builtin.«type.__call__» ⟨.ref C::rest,[]⟩) Q E ⟨h,g,d,t,os⟩:=by
 repeat (first | with_reducible refine wpAny_loadPart_at hC ?_ | with_reducible refine wpAny_madeBy_exc hC ?_ | wp_step)
 refine codeAny_call_builtin_code (Code.quiet_builtin _ F.quiet) (wpAny_check_new_subT F T hC ?_)
 refine codeAny_exc_new_subT F T hC ?_ hz
 show wpAny _ _ _ _ _ _
 generalize ho1:({ cls:=.type "tuple",data:=.seq rest.toArray }:Obj)=o1
 generalize ho2:({ cls:=.ref C,data:=.fields #[.ref h.objs.size,.none,.none,.none,.bool false,.none] }:Obj)=o2
 have up:∀ b o,h.get? b=some o->((h.push o1).push o2).get? b=some o:=fun b o z=>Heap.get?_push_of_some _ (Heap.get?_push_of_some _ z)
 have c1:=up _ _ hC
 have n1:=hn.keeps up
 have g1:((h.push o1).push o2).get? (h.objs.size+1)=some o2:=by
  have:=Heap.get?_push_size (h.push o1) (o:=o2) (by rw [<- ho2]; rfl)
  rwa [Heap.size_push] at this
 have gc:o2.cls = .ref C:=by rw [<- ho2]
 have cc:(Value.ref C::bm).contains (.ref C)=true:=by simp
 have T1:=T.keeps up
 unfold isInstance
 repeat (first | (with_reducible refine wpAny_loadPart_at g1 ?_; rw [gc]) | (with_reducible refine wpAny_isSubtype_exc c1 ?_; rw [cc]) | wp_step)
 show wpAny _ _ (typeLookup (.ref C) _) _ _ _
 refine wpAny_typeLookup_tail c1 n1 T1 F.mroIs F.init.lookup ?_
 rw [hi]
 refine wpAny_holding (wpAny_bind ?_)
 unfold bindSpecial
 refine wpAny_bind (wpAny_typeOf (T:="function") ⟨_,up _ _ hfI,hfc⟩ ?_)
 rw [if_pos (by decide)]
 refine wpAny_pure (wpAny_bind (wpAny_mono (hq _ (h.objs.size+1) ⟨up,Heap.get?_none_of_le (Nat.le_succ _),h.objs.size,by rw [g1,<- ho2],Heap.get?_none_of_le (Nat.le_refl _),?_⟩) (fun r s' hr=>?_) fun _ _ x=>x))
 ·rw [ho1]
  exact Heap.get?_push_of_some _ (Heap.get?_push_at rfl (by rw [<- ho1]; rfl))
 ·obtain ⟨rfl,hQ⟩:=hr
  wp_walk
  exact hQ
theorem ZkZ (F:ExcBaseFacts B newId initId bmB) (T:OwnTail h bmB bm) {mN:Str->Option Value} {rest:List Value} {fI:Addr} {oI:Obj} {Q:Value->Shared->Prop}
  (hC:h.get? C=some (excClassObj nm q C N bs bm hdct sn sub ab col dd k0 k1 k2 k3 k5 newId)) (hn:h.Ns N mN) (hi:mN "__init__" = some (.ref fI)) (hfI:h.get? fI=some oI) (hfc:oI.cls = .type "function")
  (hq:∀ h' e,Heap.MadeExcOf h h' e (.ref C) rest->wpAny (model prog w) (A.under (.builtin "type.__call__" ⟨.ref C::rest,[]⟩)) (call (.ref fI) (.ref e::rest)) (fun r s'=>r = .none/\Q (.ref e) s') E ⟨h',g,d,t,os⟩) (hz:rest.length<=sizeLine) :
  wpAny (model prog w) A (call (.ref C) rest) Q E ⟨h,g,d,t,os⟩:=by
 have y1:=tc_lookup
 have y2:=tc_bind (.ref C)
 have y3:(⟨h,g,d,t,os⟩:Shared).TypeIs (.ref C) "type":=⟨_,hC,rfl⟩
 refine wpAny_call (codeAny_of_tree ?_)
 show wpAny _ _ (callAny (.ref C) _) _ _ _
 repeat (any_goals (first | assumption | with_reducible refine wpAny_loadPart_at hC ?_ | wp_step))
 exact ⟨rfl,codeAny_call_builtin_at (Code.quiet_builtin _ (by decide +kernel)) entry_typeCall (wpAny_check_type_call_sub hC (Zgl F T hC hn hi hfI hfc (fun h' e hm=>hq h' e hm) hz))⟩
end
theorem Zd1 {h:Heap} {bm bmB:List Value} (T:OwnTail h bmB bm) (self:Value) (what:Str):refuseLoop self what bm=refuseLoop self what bmB:=by
 induction T with
 | base=>rfl
 | own _ _ _ _ ih=>rw [refuseLoop_ref,ih]
structure XSt (K:Frag) (C:Addr) (f:Str):Prop where
 sa:findIn K (.ref C) "__setattr__" = some (some (.builtin "object.__setattr__"))
 na:findIn K (.ref C) f=some none
 obj:mroIn K C (.type "object")=some true
section
variable {prog:Program} {w:World} {A:Around} {E:Value->Shared->Prop} {K:Frag} {h:Heap} {g:Array GenState} {d:Drawn} {t:Nat} {os:OsState}
variable {nm q f:Str} {C N x:Addr} {bs bm:List Value} {sn:List Str} {sub:List Value} {ab:Bool} {col:Option Bool} {dd:Option Addr} {k0 k1 k2 k3 k5:Option Value} {newId:String} {o:Obj} {v:Value}
theorem Zjn {M:Model} {nv:Value} {Q:Unit->Shared->Prop} (X:K.In h) (S:XSt K C f) (hx:h.get? x=some o) (hc:o.cls = .ref C) (hq:Q () ⟨h,g,d,t,os⟩) :
  wpAny M A (checkBuiltinCall "object.__setattr__" ⟨[.ref x,nv,v],[]⟩) Q E ⟨h,g,d,t,os⟩:=by
 have ha:=PySem.F.store_ValueError.args (.ref x) nv v
 have T0:=Zg3 (M:=M) hx hc
 have T1:=looks_mroIn (M:=M) X S.obj
 simp only [checkBuiltinCall,PySem.F.store_ValueError.kind,PySem.F.store_ValueError.split]
 refine wpAny_bind ?_
 unfold isInstance
 repeat (first | with_reducible refine T0.at ?_ | with_reducible refine T1.at ?_ | wp_step)
 exact hq
theorem Zjh {tk:Tok} {Q:Fin->Shared->Prop} (X:K.In h) (S:XSt K C f) (hC:h.get? C=some (excClassObj nm q C N bs bm true sn sub ab col dd k0 k1 k2 k3 k5 newId)) (T:OwnTail h Zft bm) (hx:h.get? x=some o) (hc:o.cls = .ref C) (hnc:∀ c,o.data ≠ .cls c) (hdn:o.dict=none)
  (hq:∀ h' tk',h'.get? x=some { o with dict:=some h.objs.size }->h'.Ns1 h.objs.size (fun y=>if y=f then some v else none)->(∀ b ob,b≠x->h.get? b=some ob->h'.get? b=some ob)->Q (.done (.ret .none)) ⟨h',g,d,tk',os⟩) :
  wpAny (model prog w) A (Builtin.«object.__setattr__» ⟨[.ref x,.str f tk,v],[]⟩) Q E ⟨h,g,d,t,os⟩:=by
 have hp:refuseLoop (.ref x) "__setattr__" bm=pure ():=by rw [Zd1 T]; exact PySem.F.store_ValueError.passes _
 have T0:=Zg3 (M:=model prog w) hx hc
 have T1:=looks_findIn (M:=model prog w) X S.na
 unfold Builtin.«object.__setattr__»
 repeat (first | rw [refuse_eq] | (rw [refuseLoop_ref,hp]) | (with_reducible refine wpAny_loadPart_at hx ?_; rw [hc]) | with_reducible refine T0.at ?_ | with_reducible refine wpAny_mroOf_exc hC ?_ | with_reducible refine wpAny_loadPart_at hC ?_ | with_reducible refine T1.at ?_ | wp_step)
 rw [hdn,if_neg (by simp [typeHasDict])]
 split
 ·next z=>cases z
 split
 ·next c z=>exact absurd z (hnc c)
 have xs:x≠h.objs.size:=Nat.ne_of_lt (Heap.lt_size hx)
 have x1:(h.push { cls:=.type "dict",data:=.dict #[] }).get? x=some o:=Heap.get?_push_of_some _ hx
 refine wpAny_bind (wpAny_alloc' (wpAny_bind (wpAny_update' x1 (wpAny_pure ?_))))
 generalize hg:((h.push { cls:=.type "dict",data:=.dict #[] }).update x fun o=>{ cls:=o.cls,dict:=some h.objs.size,data:=o.data,slots:=o.slots })=h1
 have gd:h1.get? h.objs.size=some { cls:=.type "dict",data:=.dict #[] }:=by
  rw [<- hg]
  exact (Heap.get?_update_ne _ _ _ _ xs.symm).trans (Heap.get?_push_at rfl rfl)
 have nd:h1.Ns h.objs.size (fun _=>none):=⟨_,#[],_,gd,rfl,fun e he=>absurd he (by simp),fun _=>rfl⟩
 show wpAny _ _ (Builtin.ObjectAttr.storeInDict h.objs.size (.str f tk) f v) _ _ _
 unfold Builtin.ObjectAttr.storeInDict Builtin.ObjectAttr.newKeyGuard
 refine wpAny_bind (wpAny_pure (wpAny_bind (wpAny_nsSet1 (Heap.Ns1.of_empty nd) fun h' n' hs=>?_)))
 obtain ⟨oD,esD,epD,hoD,hdD,hcD⟩:=n'.count (Within.cons f v Within.nil)
 refine wpAny_bind (wpAny_lookBehind hoD (by rw [hdD]; exact pastItsLine_dict (Nat.le_trans hcD (by rw [List.length_cons,List.length_nil,sizeLine_eq]; exact Om.k179 ))) ?_)
 wp_walk
 refine hq h' _ ((hs.2 x xs).trans ?_) n' fun b ob z qb=>?_
 ·rw [<- hg]
  refine Heap.get?_update_self _ x1 ?_
  have fr:=(Heap.get?_some_iff.mp hx).2
  obtain ⟨oc,od,odt,osl⟩:=o
  cases odt <;> first | rfl | exact fr
 ·refine (hs.2 b (Nat.ne_of_lt (Heap.lt_size qb))).trans ?_
  rw [<- hg]
  exact (Heap.get?_update_ne _ _ _ _ z).trans (Heap.get?_push_of_some _ qb)
theorem ZjK {Q:Unit->Shared->Prop} (X:K.In h) (S:XSt K C f) (hC:h.get? C=some (excClassObj nm q C N bs bm true sn sub ab col dd k0 k1 k2 k3 k5 newId)) (T:OwnTail h Zft bm) (hx:h.get? x=some o) (hc:o.cls = .ref C) (hnc:∀ c,o.data ≠ .cls c) (hdn:o.dict=none)
  (hq:∀ h' tk',h'.get? x=some { o with dict:=some h.objs.size }->h'.Ns1 h.objs.size (fun y=>if y=f then some v else none)->(∀ b ob,b≠x->h.get? b=some ob->h'.get? b=some ob)->Q () ⟨h',g,d,tk',os⟩) :
  wpAny (model prog w) A (setAttr (.ref x) f v) Q E ⟨h,g,d,t,os⟩:=by
 have T0:=Zg3 (M:=model prog w) hx hc
 have T1:=looks_findIn (M:=model prog w) X S.sa
 have b0:=PySem.F.store_ValueError.slot.bind (.ref x)
 unfold setAttr callSpecial? specialOf
 repeat (any_goals (first | assumption | with_reducible refine T0.at ?_ | with_reducible refine T1.at ?_ | wp_step))
 refine codeAny_call_builtin PySem.F.store_ValueError.slot.plain PySem.F.store_ValueError.entry (Zjn X S hx hc (Zjh X S hC T hx hc hnc hdn fun h' tk' z1 z2 z3=>?_))
 repeat (any_goals (first | assumption | wp_step))
 exact hq h' tk' z1 z2 z3
end
end L2
namespace L2
open PySem PySem.Spec PyProof.Rows
noncomputable abbrev ZhS (t:Addr):Data:=.fields #[.ref t,.none,.none,.none,.bool false,.none]
noncomputable def Zie (C e:Addr):HO:=.ext fun h=>∃ t,h.get? e=some { cls:=.ref C,data:=ZhS t }
noncomputable def Zjf (C dx e:Addr):HO:=.ext fun h=>∃ t,h.get? e=some { cls:=.ref C,dict:=some dx,data:=ZhS t }
theorem ext_ok {P:Program} {w:World} {H:Hp} {h:Heap} {a:Addr} {φ:Heap->Prop} (p:φ h) (o:∃ u,h.get? a=some u) (st:∀ h1 h2:Heap,φ h1->(∀ o,h1.get? a=some o->h2.get? a=some o)->φ h2):ObjOk P w H h a (.ext φ):=⟨p,o,st⟩
section
variable {X:Cx} {pins:List (Addr × Obj)} {σ:St} {H:Hp} {s:Shared}
theorem Inv.trackN {a:Addr} {o:HO} {h':Heap} {t':Nat} (I:Inv X pins σ H s) (k:∀ b u,s.heap.get? b=some u->h'.get? b=some u) (hn:s.heap.get? a=none) (new:ObjOk X.prog X.w (upd H a o) h' a o):Inv X pins σ (upd H a o) { s with heap:=h',toks:=t' }:=by
 have I1:=I.kept (t':=t') k
 refine I1.track ?_ (fun u z n hx=>?_) ?_ (fun x c z=>?_) (fun p hp=>?_) new
 ·cases q:H a with
  | none=>rfl
  | some o =>
   obtain ⟨u,z⟩:=(I.hok a o q).there
   rw [hn] at z
   cases z
 ·obtain ⟨o',z'⟩:=I.base.there a u z hx
  rw [hn] at z'
  cases z'
 ·rintro rfl
  obtain ⟨m,⟨o,_,_,ho,_⟩,_⟩:=I.loc
  rw [hn] at ho
  cases ho
 ·rintro rfl
  obtain ⟨v,o,ho,_⟩:=I.cell x c z
  rw [hn] at ho
  cases ho
 ·rintro rfl
  have:=(I.pin p hp).1
  rw [hn] at this
  cases this
end
section
variable {X:Cx} {o e value:Expr} {f:Str} {pos pos':Pos} {ta tv:TE}
noncomputable def ZkE (K:PySem.W.Frag) (ta tv:TE) (f:Str):TS:=fun D σ H=>tv σ H fun y H1=>ta σ H1 fun x H2=>∃ e C fI,x = .ref e/\H2 e=some (Zie C e)/\XSt K C f/\Zaj K C fI Zft "ValueError.__new__" = true /\
 ∀ dx,H2 dx=none->dx≠e->D.nx σ (upd (upd H2 e (Zjf C dx e)) dx (.xd [(f,y)]))
theorem ZiM (ha:PE X o ta) (hv:PE X value tv) (hs:swapsWith value (some (.Attribute o f pos')) pos.line X.env=pure false:=by rfl):PS X (.Assign [.Attribute o f pos'] value pos) (ZkE X.K ta tv f):=by
 intro pins s σ H D I h
 refine plainObj_wpAny_Assign_Attribute (thn (hv pins s σ H _ I h) fun u s1 ⟨y,H1,I1,ry,q⟩=>thn (ha pins s1 σ H1 _ I1 q) fun ov s2 zz0=>?_) hs
 obtain ⟨x,H2,I2,rx,a,C,fI,ex,ea,S,xi,q2⟩:=zz0
 subst ex
 obtain rfl:ov=Value.ref a:=rx
 obtain ⟨⟨t,hat⟩,_⟩:=I2.hok a _ ea
 obtain ⟨bm,N,nm,qn,bs,sn,sub,ab,col,dd,k0,k1,k2,k3,k5,mN,hC,hN,hni,T⟩:=Zck I2.kIn xi
 obtain ⟨h,g,d,tk,os⟩:=s2
 have lt:a<h.objs.size:=Heap.lt_size hat
 have hfr:H2 h.objs.size=none:=I2.hok.fresh (Nat.le_refl _)
 refine ZjK I2.kIn S hC T hat rfl (fun c z=>nomatch z) rfl fun h' tk' z1 z2 z3=>?_
 have J1:=I2.write (x:=a) (e:=a) (o:=Zjf C h.objs.size a) (t':=tk') (by rw [ea]; exact True.intro) (.inl rfl) (fun b w hb q=>z3 b w hb q) ⟨_,z1⟩ (ext_ok ⟨t,z1⟩ ⟨_,z1⟩ fun h1 h2 zz0 k=> by obtain ⟨t,q⟩ := zz0; exact ⟨t,k _ q⟩)
 have J2:=J1.track (a:=h.objs.size) (o:=.xd [(f,y)]) (by rw [Zh (Nat.ne_of_gt lt)]; exact hfr) (fun w q _ _=>absurd (Nat.lt_of_lt_of_le (Heap.lt_size q) I2.sz) (Nat.lt_irrefl _)) (Nat.ne_of_gt I2.lt)
  (fun x c q z=>by obtain ⟨v,o,ho,_⟩:=I2.cell x c q; rw [z] at ho; exact absurd (Heap.lt_size ho) (Nat.lt_irrefl _)) (fun p hp z=>by have:=(I2.pin p hp).1; rw [z] at this; exact absurd (Heap.lt_size this) (Nat.lt_irrefl _))
  ⟨_,z2,fun g=>by
   show RelO ([(f,y)].lookup g) (if g=f then some u else none)
   rw [List.lookup_cons]
   by_cases e:g=f
   ·subst e
    rw [if_pos rfl,beq_self_eq_true]
    exact ry
   ·rw [if_neg e,show (g==f)=false by simpa using e]
    exact True.intro⟩
 exact ⟨σ,_,J2,q2 _ hfr (Nat.ne_of_gt lt)⟩
end
structure MkE (K:PySem.W.Frag) (C fI:Addr):Prop where
 xi:Zaj K C fI Zft "ValueError.__new__" = true
 fn:PySem.W.isFn K (.ref fI)=true
 kp:PySem.W.keepIn K (.ref C)=true
noncomputable def Zg9 (C:Addr) (sp:Sp) (t:TA):TE:=fun σ H Q=>t σ H fun vs H1=>vs.length<=sizeLine/\∀ e,H1 e=none->sp (.ref e::vs) (upd H1 e (Zie C e)) (fun v H2=>v = .non/\Q (.ref e) H2) E0
theorem Zkc {K:PySem.W.Frag} {h:Heap} {f:Addr} (X:K.In h) (e:PySem.W.isFn K (.ref f)=true):∃ o,h.get? f=some o/\o.cls = .type "function":=by
 have e':=beq_iff_eq.mp e
 obtain ⟨o,ho,hc⟩:=Option.map_eq_some_iff.mp e'
 exact ⟨o,X _ _ ho,hc⟩
section
variable {X:Cx} {k:Nat} {f C:Addr} {fd:FuncData} {ps:List Str} {sp:Sp} {x:Str} {p pos:Pos} {e:Expr} {es:List Expr} {t:TA}
theorem Zgr {pins:List (Addr × Obj)} {σ:St} {H:Hp} {s:Shared} {Q:VK} {us:List Value} {vs:List V} (M:MkE X.K C f) (F:FnOk X.prog X.w X.K X.mg X.base CX0 k f fd ps sp) (hr:Room (k+1) X.A) (hb:Binds X.K fd ps [])
  (I:Inv X pins σ H s) (r:Vals vs us) (hz:vs.length<=sizeLine) (h:∀ e,H e=none->sp (.ref e::vs) (upd H e (Zie C e)) (fun v H2=>v = .non/\Q (.ref e) H2) E0):wpAny (model X.prog X.w) X.A (call (.ref C) us) (EP X pins σ Q) X.xe s:=by
 obtain ⟨bm,N,nm,qn,bs,sn,sub,ab,col,dd,k0,k1,k2,k3,k5,mN,hC,hN,hni,T⟩:=Zck I.kIn M.xi
 obtain ⟨oI,hfI,hfc⟩:=Zkc I.kIn M.fn
 obtain ⟨hh,g,d,tk,os⟩:=s
 refine ZkZ PySem.F.excBase_ValueError T hC hN hni hfI hfc (fun h' e hm=>?_) (by rw [<- r.length]; exact hz)
 obtain ⟨t,ht,_,_⟩:=hm.there
 have I2:Inv X pins σ (upd H e (Zie C e)) ⟨h',g,d,tk,os⟩:=I.trackN (t':=tk) hm.keeps hm.new (ext_ok ⟨t,ht⟩ ⟨_,ht⟩ fun h1 h2 zz0 k=> by obtain ⟨t,q⟩ := zz0; exact ⟨t,k _ q⟩)
 have hen:H e=none:=by
  cases q:H e with
  | none=>rfl
  | some o =>
   obtain ⟨u,z⟩:=(I.hok e o q).there
   rw [show hh.get? e=none from hm.new] at z
   cases z
 have hq:=h e hen
 have r2:Vals (V.ref e::vs) (Value.ref e::us):=.cons rfl r
 have hl:(Value.ref e::us++[]).length=ps.length:=by
  have z:=r2.length
  rw [F.len _ _ _ _ hq] at z
  rw [List.append_nil]
  exact z.symm
 have hb2:=hb ⟨h',g,d,tk,os⟩ (Value.ref e::us) I2.kIn hl
 rw [List.append_nil] at hb2
 refine wpAny_call (codeAny_mono (F.run _ X.stack _ _ ⟨Value.ref e::us,[]⟩ (Value.ref e::us) _ _ E0 (hr.make C us []) (I2.env0.make C us []) hb2 r2 hq) fun r s' hq'=>?_)
 cases r with
 | error e=>exact hq'.elim
 | ok fl =>
  cases fl with
  | ret u =>
   obtain ⟨v,H',I3,rv,ev,q3⟩:=I2.after hq'
   subst ev
   exact ⟨rv,⟨V.ref e,H',I3,rfl,q3⟩⟩
  | next=>exact False.elim hq'
  | brk=>exact False.elim hq'
  | cont=>exact False.elim hq'
theorem ZhE (M:MkE X.K C f) (F:FnOk X.prog X.w X.K X.mg X.base CX0 k f fd ps sp) (hr:Room (k+1) X.A) (hg:Gl X x) (hm:X.mg x=some (.ref C)) (hb:Binds X.K fd ps [])
  (ha:PA X (e::es) t) (hdb:(x==("__debug__" : Str))=false:=by decide) (he:starEach (e::es) X.env=(false,eval e X.env)::starEach es X.env:=by rfl) (hpl:(backTo pos (starEach es X.env)).any (·.1)=false:=by rfl) :
  PE X (.Call (.Name x p) (e::es) [] pos) (Zg9 C sp t):=by
 intro pins s σ H Q I h
 refine wpAny_Call_Name_kw (ZaR I hg hm ?_ hdb)
 refine PySem.W.callWith_K (h₀:=X.base) I.ok.mod.kin M.kp (thn (ha pos pins s σ H _ I h) fun us s1 ⟨vs,H1,I1,r,hz,q⟩=>⟨I1.kIn,?_⟩) he hpl
 exact Zgr M F hr hb I1 r hz q
end
noncomputable def Zhh (K:PySem.W.Frag) (f:Str):Sp:=fun vs H Q _=>∃ e v C fI,vs=[.ref e,v]/\H e=some (Zie C e)/\XSt K C f/\Zaj K C fI Zft "ValueError.__new__" = true /\
 ∀ dx,H dx=none->dx≠e->Q .non (upd (upd H e (Zjf C dx e)) dx (.xd [(f,v)]))
end L2
namespace L2
open PySem PySem.Spec PyProof.Rows
noncomputable def CX2 (P:Program) (w:World):CXT:=fun outer H s E v s'=>∃ (e:Addr) (cls a0:Value) (dx:Option Addr) (H':Hp) (B:Heap),v = .ref e/\Flies P w outer H s e cls a0 H' B s'/\Jy s'.heap e dx/\E cls dx H'
theorem Zje {K:PySem.W.Frag} {C fI:Addr} {bmB:List Value} {newId:String} (q:Zaj K C fI bmB newId=true):∃ o,K.lookup C=some o:=by
 unfold Zaj at q
 split at q
 ·next ho=>exact ⟨_,ho⟩
 ·cases q
noncomputable def Ze0 (H:Hp) (a:Addr):Hp:=fun b=>if b=a then none else H b
theorem YE {H:Hp} {a b:Addr} (h:b≠a):Ze0 H a b=H b:=by unfold Ze0; rw [if_neg h]
theorem Ziw {H:Hp} {a:Addr}:Ze0 H a a=none:=by unfold Ze0; rw [if_pos rfl]
section
variable {M:Model} {A:Around} {E:Value->Shared->Prop} {env:Env}
variable {nm q:Str} {C N:Addr} {bs bm:List Value} {hdct:Bool} {sn:List Str} {sub:List Value} {ab:Bool} {col:Option Bool} {dd:Option Addr} {k0 k1 k2 k3 k5:Option Value} {newId:String}
theorem ZjS {s:Shared} {x:Sem Value} {Q:Flow->Shared->Prop} (hbase:bm.contains (.type "BaseException")=true) (hh:A.handled=none)
  (h:wpAny M A x (fun v s₁=>∃ e t dx,v = .ref e/\s₁.heap.get? C=some (excClassObj nm q C N bs bm hdct sn sub ab col dd k0 k1 k2 k3 k5 newId)/\s₁.heap.get? e=some { cls:=.ref C,dict:=dx,data:=ZhS t }/\E (.ref e) s₁) E s) :
  wpAny M A (raiseStmt env (some x) none) Q E s:=by
 have hcB:(Value.ref C::bm).contains (.type "BaseException")=true:=by rw [List.contains_cons,hbase,Bool.or_true]
 unfold raiseStmt
 refine wpAny_bind (wpAny_mono h (fun v s₁ h₁=>?_) fun _ _ x=>x)
 obtain ⟨e,t,dx,rfl,hC,he,hE⟩:=h₁
 obtain ⟨hp,g,d,tk,os⟩:=s₁
 repeat (first | with_reducible refine wpAny_loadPart_at he ?_ | with_reducible refine wpAny_loadPart_at hC ?_ | (with_reducible refine wpAny_isSubtype_exc hC ?_; rw [hcB]) | wp_step)
 exact wpAny_raiseNew_none hh hE
end
section
variable {P:Program} {w:World} {K:PySem.W.Frag} {mg:Str->Option Value} {base:Heap} {N:List Str} {qual:Str} {scope:Scope} {f:Addr} {cd:Value} {A:Around} {outer:List Env} {s₀:Shared} {H₀:Hp} {E:XK}
theorem Zic {pins:List (Addr × Obj)} {s:Shared} {σ:St} {H:Hp} {e:Addr} {oe:Obj} {vs:Array Value} {a0:Value} (I:Inv (Z9 (CX2 P w) P w K mg base N qual scope f cd A outer s₀ H₀ E) pins σ H s) (he:s.heap.get? e=some oe) (hd:oe.data = .fields vs)
  (h1:vs[1]? = some .none) (h0:vs[0]? = some a0) (hxe:H e=none\/∃ φ,H e=some (.ext φ)) (hnew:s₀.heap.get? e=none) (h:E oe.cls oe.dict (Ze0 H e)):(Z9 (CX2 P w) P w K mg base N qual scope f cd A outer s₀ H₀ E).xe (.ref e) s:=by
 have hin:∀ env∈(Z9 (CX2 P w) P w K mg base N qual scope f cd A outer s₀ H₀ E).stack,∀ b,env.frame=some b->b∈frs (Z9 (CX2 P w) P w K mg base N qual scope f cd A outer s₀ H₀ E).stack:=fun env he b hb=>List.mem_filterMap.mpr ⟨env,he,hb⟩
 have nfr:∀ b o,s₀.heap.get? b=some o->b∉frs outer->b∉frs (Z9 (CX2 P w) P w K mg base N qual scope f cd A outer s₀ H₀ E).stack:=fun b o q hb z=>by
  rcases List.mem_cons.mp (I.stkSub b z) with z | z
  ·exact absurd (Nat.lt_of_lt_of_le (Heap.lt_size q) (by rw [z]; exact I.ok.above)) (Nat.lt_irrefl _)
  ·exact hb z
 have ne0:∀ b o,s₀.heap.get? b=some o->b≠e:=fun b o q z=>by rw [z,hnew] at q; cases q
 have nx:∀ (F:Hp->Prop),True:=fun _=>trivial
 refine Zj7 (base:=PySem.W.hideAll s.heap (e::frs (Z9 (CX2 P w) P w K mg base N qual scope f cd A outer s₀ H₀ E).stack)) I.ok.frames (PySem.W.funFrames_hide I.stack fun env h' b hb=>List.mem_cons_of_mem _ (hin env h' b hb)) rfl he (fun b o q=>PySem.W.of_hideAll _ q) (PySem.W.hideAll_none _ List.mem_cons_self) hd h1 h0 fun h'' fl up dct=>?_
 have hid:∀ b o,s.heap.get? b=some o->b≠e->b∉frs (Z9 (CX2 P w) P w K mg base N qual scope f cd A outer s₀ H₀ E).stack->(PySem.W.hideAll s.heap (e::frs (Z9 (CX2 P w) P w K mg base N qual scope f cd A outer s₀ H₀ E).stack)).get? b=some o:=fun b o q z1 z2 =>
  PySem.W.hideAll_get _ q fun z=>by
   rcases List.mem_cons.mp z with z | z
   ·exact z1 z
   ·exact z2 z
 refine ⟨e,oe.cls,a0,oe.dict,Ze0 H e,_,rfl,⟨I.os,I.bare,fl,fun b o q n hb=>?_,fun b o q n hb=>?_,fun b o q n=>?_,fun b o q hb=>?_,fun b xs q=>?_,fun b o u q=>?_,fun b ps q=>?_,fun a o q=>?_⟩,dct,h⟩
 ·exact hid b o (I.base.keep b o q n hb (by simp [Z9])) (ne0 b o q) (nfr b o q hb)
 ·obtain ⟨sl,q1⟩:=I.base.slot b o q n hb (by simp [Z9])
  obtain ⟨_,o2,q2,d2⟩:=I.funs.mem hb
  rw [q1] at q2
  cases q2
  obtain ⟨sl2,q3⟩:=up b _ q1 d2
  exact ⟨sl2,q3⟩
 ·rw [YE (ne0 b o q)]
  exact I.base.free b o q n (by simp [Z9])
 ·obtain ⟨o',q1⟩:=I.base.there b o q (by simp [Z9])
  exact ⟨o',hid b o' q1 (ne0 b o q) (nfr b o q hb)⟩
 ·have z:=I.base.tups b xs q
  rw [YE (fun y=>by rw [y] at z; rcases hxe with x | ⟨φ,x⟩ <;> · rw [x] at z; cases z)]
  exact z
 ·have z:=I.base.frzs b o u q
  rw [YE (fun y=>by rw [y] at z; rcases hxe with x | ⟨φ,x⟩ <;> · rw [x] at z; cases z)]
  exact z
 ·obtain ⟨more,z⟩:=I.base.tbls b ps q
  refine ⟨more,?_⟩
  rw [YE (fun y=>by rw [y] at z; rcases hxe with x | ⟨φ,x⟩ <;> · rw [x] at z; cases z)]
  exact z
 ·have hae:a≠e:=fun z=>by rw [z,Ziw] at q; cases q
  rw [YE hae] at q
  have oth:∀ b u,H b=some u->(∀ φ,u ≠ .ext φ)->b≠e:=fun b u z n y=>by
   rw [y] at z
   rcases hxe with x | ⟨φ,x⟩
   ·rw [x] at z; cases z
   ·rw [x] at z
    cases z
    exact n φ rfl
  refine (I.hok a o q).stay (fun b u hb q1=>hid b u q1 ?_ fun z=>?_) (fun b z=>by rw [YE (oth b _ z (fun φ y=>nomatch y))]; exact z) fun b xs z=>by rw [YE (oth b _ z (fun φ y=>nomatch y))]; exact z
  ·rcases hb with rfl | hb
   ·exact hae
   ·exact oth b _ hb fun φ y=>nomatch y
  ·have z1:=I.stkFree b z
   rcases hb with rfl | hb
   ·rw [q] at z1; cases z1
   ·rw [hb] at z1; cases z1
theorem ZcO {x:Str} {np cpos pos:Pos} {C fI:Addr} {fdI:FuncData} {ps:List Str} {sp:Sp} {k:Nat} {e:Expr} {es:List Expr} {t:TA} (M:MkE K C fI) (F:FnOk P w K mg base CX0 k fI fdI ps sp) (hr:Room (k+1) (A.deeper (envOfC qual scope s₀.heap.objs.size f cd)))
  (hg:Gl (Z9 (CX2 P w) P w K mg base N qual scope f cd A outer s₀ H₀ E) x) (hm:mg x=some (.ref C)) (hb:Binds K fdI ps []) (ha:PA (Z9 (CX2 P w) P w K mg base N qual scope f cd A outer s₀ H₀ E) (e::es) t) (hdb:(x==("__debug__" : Str))=false:=by decide)
  (he:starEach (e::es) (Z9 (CX2 P w) P w K mg base N qual scope f cd A outer s₀ H₀ E).env=(false,eval e (Z9 (CX2 P w) P w K mg base N qual scope f cd A outer s₀ H₀ E).env)::starEach es (Z9 (CX2 P w) P w K mg base N qual scope f cd A outer s₀ H₀ E).env:=by rfl)
  (hpl:(backTo cpos (starEach es (Z9 (CX2 P w) P w K mg base N qual scope f cd A outer s₀ H₀ E).env)).any (·.1)=false:=by rfl) :
  PS (Z9 (CX2 P w) P w K mg base N qual scope f cd A outer s₀ H₀ E) (.Raise (some (.Call (.Name x np) (e::es) [] cpos)) none pos)
   (fun _ σ H=>Zg9 C sp t σ H fun v H2=>∃ e dx,v = .ref e/\H2 e=some (Zjf C dx e)/\H₀ e=none/\E (.ref C) (some dx) (Ze0 H2 e)):=by
 intro pins s σ H D I h
 have pe:=ZhE (p:=np) (pos:=cpos) M F hr hg hm hb ha hdb he hpl pins s σ H _ I h
 rw [arm_exec_Raise]
 have hbv:∀ {h:Heap} {bm:List Value},OwnTail h Zft bm->bm.contains (.type "BaseException")=true:=fun T=>T.hasType rfl
 obtain ⟨bm,Nn,nm,qn,bs,sn,sub,ab,col,dd,k0,k1,k2,k3,k5,mN,hC0,_,_,T0⟩:=Zck I.kIn M.xi
 simp only [evalOpt,Option.map]
 refine wpAny_bind (wpAny_standAt (ZjS (C:=C) (nm:=nm) (q:=qn) (N:=Nn) (bs:=bs) (bm:=bm) (hdct:=true) (sn:=sn) (sub:=sub) (ab:=ab) (col:=col) (dd:=dd) (k0:=k0) (k1:=k1) (k2:=k2) (k3:=k3) (k5:=k5) (newId:="ValueError.__new__") (hbv T0) (I.ok.hd rfl) (wpAny_bind (wpAny_mono pe (fun v s1 h1=>wpAny_bind (wpAny_standAt (wpAny_pure ?_))) fun _ _ z=>z))))
 obtain ⟨u,H2,I2,ru,e,dx,rfl,he2,h0,q⟩:=h1
 cases ru
 obtain ⟨⟨t,ht⟩,_⟩:=I2.hok e _ he2
 refine ⟨e,t,some dx,rfl,?_,ht,Zic I2 ht rfl rfl rfl (.inr ⟨_,he2⟩) ?_ q⟩
 ·obtain ⟨o0,lk⟩:=Zje M.xi
  have z:=I.kIn _ _ lk
  rw [hC0] at z
  rw [I2.kIn _ _ lk,z]
 ·cases q:s₀.heap.get? e with
  | none=>rfl
  | some o =>
   have z:=I2.base.free e o q h0 (by simp [Z9])
   rw [he2] at z
   cases z
end
section
variable {P:Program} {w:World} {K:PySem.W.Frag} {mg:Str->Option Value} {base:Heap} {E:XK}
theorem Fun.okX2 {x qual:Str} {st:Stmt} {f:Addr} {fd:FuncData} {N ps:List Str} {k:Nat} {sp:Sp} (F:Fun K x qual st f fd) (S:Zt N ps (Zf st)) (len:∀ vs H Q E,sp vs H Q E->vs.length=ps.length)
  (hbody:∀ (cdv:Value) (A:Around) (outer:List Env) (s:Shared) (H:Hp) (vs:List V) (Q:VK) (E:XK),Room k (A.deeper (envOfC qual (Zf st) s.heap.objs.size f cdv))->sp vs H Q E ->
   ∃ t,PSs (Z9 (CX2 P w) P w K mg base N qual (Zf st) f cdv A outer s H E) (Zo st) t/\t { nx:=fun _ H'=>Q .non H',rt:=Q } (start N vs) H):FnOk P w K mg base (CX2 P w) (k+1) f fd ps sp:=by
 obtain ⟨oc,od,kV,doc,pm,an,cdv,ct,osl,rfl,lk,hcd⟩:=F.ex
 exact ZfV lk hcd S len fun A outer s H vs Q E hr hsp=>hbody cdv A outer s H vs Q E hr hsp
end
noncomputable def XW2 (X:Cx) (pins:List (Addr × Obj)) (σ:St) (E:XK):Value->Shared->Prop:=fun v s'=>∃ H0 s0,Inv X pins σ H0 s0/\CX2 X.prog X.w X.stack H0 s0 E v s'
theorem ZhH {X:Cx} {pins:List (Addr × Obj)} {σ:St} {E:XK}:ZeE (CX2 X.prog X.w) (X.tryIn pins (XW2 X pins σ E)) E σ:=fun ps H s e s' I h=>⟨H,s,I.untry,h⟩
noncomputable def PH2 (X:Cx) (hs:List ExceptHandler) (t:Value->Option Addr->TS):Prop :=
 ∀ (pins:List (Addr × Obj)) (s0 s:Shared) (σ:St) (H0 H':Hp) (e:Addr) (cls a0:Value) (dx:Option Addr) (B:Heap) (D:ZbF),Inv X pins σ H0 s0->Flies X.prog X.w X.stack H0 s0 e cls a0 H' B s->Jy s.heap e dx->t cls dx D σ H' ->
  wpAny (model X.prog X.w) X.A (handleBy (.ref e) X.env hs) (SP X pins D) X.xe s
section
variable {X:Cx}
theorem ZfH {body:List Stmt} {h₀:ExceptHandler} {hs:List ExceptHandler} {pos:Pos} {tb:St->XK->TS} {th:Value->Option Addr->TS} (hst:X.stack=X.env::X.outer) (hfr:X.env.frame=some X.env.locals)
  (hb:∀ pins σ0 E,PSs (X.tryIn pins (XW2 X pins σ0 E)) body (tb σ0 E)) (hh:PH2 X (h₀::hs) th):PS X (.Try body (h₀::hs) [] [] pos) (fun D σ H=>tb σ (fun cls dx H'=>th cls dx D σ H') D σ H):=by
 intro pins s σ H D I h
 refine wpAny_Try_except (wpAny_mono (hb pins σ _ [] s σ H D (I.tryIn _) h) (fun f s1 q=>?_) fun v s1 q=>?_)
 ·cases f with
  | next=>exact wpAny_execs_nil q.untry
  | brk=>exact q.untry
  | cont=>exact q.untry
  | ret u=>exact q.untry
 ·obtain ⟨H0,s0,I0,e,cls,a0,dx,H',B,rfl,fl,dc,q⟩:=q
  have fl1:=fl.fly
  rw [hst] at fl1
  refine Zjx (by rw [I0.ok.frames,hst]) hfr fl1 dc fun h4 held up4 d4=>?_
  refine ZdJ (s:={ s1 with heap:=h4 }) held.1 held.2.1 held.2.2.1 held.2.2.2 d4 fun h5 fl5 up5 d5=>?_
  rw [<- hst] at fl5
  exact hh pins s0 _ σ H0 H' e cls a0 dx B D I0 (fl.on (s'':={ s1 with heap:=h5 }) fl5 (up4.trans up5) rfl fl.bare) d5 q
end
end L2
namespace L2
open PySem PySem.Spec PyProof.Rows
section
variable {X:Cx}
end
theorem YQ:fillsNumberSlot (.type "tuple") "mul" = pure false :=
 PySem.fillsNumberSlot_seq (id:="tuple.__mul__") (r:=some (.builtin "tuple.__rmul__")) PySem.F.slot_tuple_mul.lookup (by decide +kernel) PySem.F.slot_tuple_rmul.lookup (by decide +kernel)
theorem JK:seqRepeat? (.type "tuple")=pure (some (.builtin "tuple.__mul__")):=by
 unfold seqRepeat?
 rw [PySem.seqSlot_of (T:="tuple") (name:="__mul__") (id:="tuple.__mul__") PySem.F.slot_tuple_mul.lookup (by decide +kernel),PySem.seqSlot_of (T:="tuple") (name:="__rmul__") (id:="tuple.__rmul__") PySem.F.slot_tuple_rmul.lookup (by decide +kernel)]
 rfl
section
variable (l:Addr) (its:List Value) (n:Nat) (dd:Option Addr) (sl:Array (Option Value)) (k:Int) (t:Tok)
theorem ZaC:Meets (Builtin.«int.__rmul__» ⟨[.int k t,.ref l],[]⟩) (fun _ R s=>s.heap.get? l=some { cls:=.type "tuple",dict:=dd,data:=.seq its.toArray n,slots:=sl }/\R (.ok (.ret Value.notImplemented)) s) :=
 .of_wp fun prog w A R s h=>by
  obtain ⟨hp,g,d,tk,os⟩:=s
  obtain ⟨hl,h⟩:=h
  wp_walk using wpAny_loadPart' hl
  exact ⟨_,rfl,h⟩
theorem Zib:List.foldl (fun x1 x2=>x1++x2) #[] (List.replicate k.toNat its.toArray)=(List.replicate k.toNat its).flatten.toArray:=by
 have:=Zc2 its k.toNat []
 rw [List.nil_append] at this
 exact this
theorem ZgF (he:its≠[]) (hk:2<=k) (hk2:k<1000) (hz:its.length*k.toNat<=sizeLine) :
  Meets (Builtin.«tuple.__mul__» ⟨[.ref l,.int k t],[]⟩) (fun _ R s=>s.heap.get? l=some { cls:=.type "tuple",dict:=dd,data:=.seq its.toArray n,slots:=sl } /\
   R (.ok (.ret (Value.ref s.heap.objs.size))) { s with heap:=s.heap.push { cls:=.type "tuple",data:=.seq (List.replicate k.toNat its).flatten.toArray } }) :=
 .of_wp fun prog w A R s h=>by
  obtain ⟨hp,g,d,tk,os⟩:=s
  obtain ⟨hl,h⟩:=h
  have f1:=AutoSeq1.idx_int
  have f2:=AutoSeq1.sub_tuple_tuple
  have he':¬ its.toArray.isEmpty=true:=by simpa using he
  have e:((its.toArray.size*k.toNat:Nat):Int)=(its.toArray.size:Int)*k:=by rw [Int.natCast_mul,Int.toNat_of_nonneg (by exact Om.k178 hk hk2)]
  have hz':its.toArray.size*k.toNat<=sizeLine:=by rw [List.size_toArray]; exact hz
  have b1:¬ (decide (k < -(2 ^ 63))||decide (k>=2 ^ 63))=true:=by
   rw [decide_eq_false (by exact Om.k177 hk hk2),decide_eq_false (by exact Om.k176 hk hk2)]
   decide
  have b2:¬ (its.toArray.isEmpty||k==1)=true:=by
   rw [Bool.or_eq_true]
   rintro (z | z)
   ·exact he' z
   ·have:=beq_iff_eq.mp z; exact (Om.k175 hk hk2 this).elim
  have b3:¬ (decide (k<=0)||its.toArray.isEmpty)=true:=by
   rw [Bool.or_eq_true]
   rintro (z | z)
   ·have:=of_decide_eq_true z; exact (Om.k174 hk hk2 this).elim
   ·exact he' z
  have b4:¬ ((its.toArray.size:Int)*k>(2 ^ 63 - 1) / 8):=by
   have z:(sizeLine:Int)<=(2 ^ 63 - 1) / 8:=by decide
   omega
  have b5:Builtin.Tuple.tupleTooMany ((its.toArray.size:Int)*k)=false:=by
   unfold Builtin.Tuple.tupleTooMany
   rw [<- e]
   exact decide_eq_false (by exact Om.k173 e hz')
  have b6:¬ ((List.replicate k.toNat its).flatten.toArray.size>sizeLine):=by
   rw [List.size_toArray,ZfQ,Nat.mul_comm]
   exact Om.k172 hz
  wp_walk using wpAny_loadPart' hl
  rw [if_neg b1]
  wp_walk using wpAny_loadPart' hl
  rw [if_neg b2]
  wp_walk using wpAny_loadPart' hl
  rw [if_neg b3]
  wp_walk using wpAny_loadPart' hl
  rw [if_neg b4]
  wp_walk using wpAny_loadPart' hl
  rw [Zib,if_neg (by rw [b5]; exact Bool.false_ne_true)]
  wp_walk using wpAny_loadPart' hl
  rw [if_neg b6]
  wp_walk using wpAny_loadPart' hl
  exact ⟨_,rfl,h⟩
end
noncomputable def ZkH:R2:=fun x y H Q=>∃ l k xs,x = .ref l/\y = .int k/\H l=some (.tup xs)/\xs≠[]/\2<=k/\k<1000/\xs.length*k.toNat<=sizeLine/\∀ p,H p=none->Q (.ref p) (upd H p (.tup (List.replicate k.toNat xs).flatten))
theorem ZiP {X:Cx}:OpR X (binaryOp .Mult) ZkH:=by
 intro pins s σ H x y v u Q I rx ry h
 obtain ⟨l,k,xs,rfl,rfl,hH,hne,h1,h2,hz,q⟩:=h
 cases rx
 obtain ⟨t,rfl⟩:=ry
 obtain ⟨_,its,r,p⟩:=I.hok l _ hH
 obtain ⟨⟨cls,dd,data,sl⟩,e,hc,n,hd⟩:=IsTupN.is p
 simp only at hc hd
 subst hc hd
 have hits:its≠[]:=fun z=>hne (by have:=r.length; rw [z] at this; exact List.length_eq_zero_iff.mp this)
 have hl:its.length*k.toNat<=sizeLine:=by rw [<- r.length]; exact hz
 refine wpAny_binaryOp_repeat_ref (T:="tuple") (U:="int") (by decide) ⟨_,e,rfl⟩ (fun s'=>typeIs_int s' k t) YQ PySem.F.fills_int_mul PySem.F.slot_int_rmul JK PySem.F.slot_int_index.lookup
  (call_meets PySem.F.slot_int_rmul (typeIs_int s k t) PySem.F.entry_int_rmul (PySem.F.args_int_rmul_2 _ _) (ZaC l its n dd sl k t)
   ⟨e,rfl,⟨_,e,rfl⟩,call_meets PySem.F.slot_tuple_mul ⟨_,e,rfl⟩ PySem.F.entry_tuple_mul (PySem.F.args_tuple_mul_2 _ _) (ZgF l its n dd sl k t hits h1 h2 hl) ⟨e,?_⟩⟩)
 have hl2:(List.replicate k.toNat xs).flatten.length<=sizeLine:=by rw [ZfQ,Nat.mul_comm]; exact hz
 exact ⟨.ref _,_,I.laid (t':=s.toks) (o:=.tup (List.replicate k.toNat xs).flatten) (fun _ _ q=>Heap.get?_push_of_some _ q) (Nat.le_refl _) ⟨hl2,_,r.rep k.toNat,IsTupN.new _ _⟩,rfl,q _ I.fresh⟩
end L2
namespace L2
open PySem PySem.Spec PyProof.Rows
section
variable {κ:Type} [DecidableEq κ]
noncomputable def Zaz (kvs:List (κ × V)) (k:κ):Option V:=(kvs.find? fun kv=>decide (kv.1=k)).map (·.2)
noncomputable def Za9 (kvs:List (κ × V)) (k:κ) (v:V):List (κ × V) :=
 if (kvs.any fun kv=>decide (kv.1=k))=true then kvs.map (fun kv=>if kv.1=k then (kv.1,v) else kv) else kvs++[(k,v)]
theorem ZbP {p:κ × V} {r:List (κ × V)} {k:κ} (e:p.1=k):Zaz (p::r) k=some p.2:=by simp [Zaz,List.find?_cons,e]
theorem ZbQ {p:κ × V} {r:List (κ × V)} {k:κ} (e:¬ p.1=k):Zaz (p::r) k=Zaz r k:=by simp [Zaz,List.find?_cons,e]
theorem ZdT (k:κ):∀ kvs:List (κ × V),(kvs.any fun kv=>decide (kv.1=k))=(Zaz kvs k).isSome
 | []=>rfl
 | p::r=>by
  rw [List.any_cons]
  by_cases e:p.1=k
  ·simp only [ZbP e,decide_eq_true e,Bool.true_or,Option.isSome_some]
  ·rw [ZbQ e,decide_eq_false e,Bool.false_or]; exact ZdT k r
theorem Zbt (kvs:List (κ × V)) (k:κ) (v:V):(Za9 kvs k v).length<=kvs.length+1:=by
 unfold Za9
 split
 ·rw [List.length_map]; exact Om.k171 
 ·rw [List.length_append,List.length_cons,List.length_nil]; exact Om.k170 
theorem RelO.isSome_eq {o:Option V} {u:Option Value} (r:RelO o u):o.isSome=u.isSome:=by
 cases o with
 | none=>cases u with
  | none=>rfl
  | some _=>exact (show False from r).elim
 | some _=>cases u with
  | none=>exact (show False from r).elim
  | some _=>rfl
theorem KV.val {kvs:List (κ × V)} {vs:List (κ × Value)} (r:KV kvs vs) (k:κ):RelO (Zaz kvs k) (valueAt vs k):=by
 unfold KV at r
 induction r with
 | nil=>exact True.intro
 | @cons p q ps qs h t ih =>
  obtain ⟨h1,h2⟩:=h
  by_cases e:p.1=k
  ·have e':q.1=k:=h1.symm.trans e
   have b:valueAt (q::qs) k=some q.2:=by simp [valueAt,List.find?_cons,e']
   rw [ZbP e,b]; exact h2
  ·have e':¬ q.1=k:=fun z=>e (h1.trans z)
   have b:valueAt (q::qs) k=valueAt qs k:=by simp [valueAt,List.find?_cons,e']
   rw [ZbQ e,b]; exact ih
theorem KV.any {kvs:List (κ × V)} {vs:List (κ × Value)} (r:KV kvs vs) (k:κ):(kvs.any fun kv=>decide (kv.1=k))=vs.any fun kv=>decide (kv.1=k):=by
 unfold KV at r
 induction r with
 | nil=>rfl
 | cons h t ih=>rw [List.any_cons,List.any_cons,ih,h.1]
theorem KV.repl {kvs:List (κ × V)} {vs:List (κ × Value)} (r:KV kvs vs) (k:κ) {y:V} {u:Value} (ry:RelV y u) :
  KV (kvs.map fun kv=>if kv.1=k then (kv.1,y) else kv) (vs.map fun kv=>if kv.1=k then (kv.1,u) else kv):=by
 unfold KV at r ⊢
 induction r with
 | nil=>exact .nil
 | @cons p q ps qs h t ih =>
  rw [List.map_cons,List.map_cons]
  refine .cons ?_ ih
  obtain ⟨h1,h2⟩:=h
  by_cases e:p.1=k
  ·rw [if_pos e,if_pos (h1.symm.trans e)]; exact ⟨h1,ry⟩
  ·rw [if_neg e,if_neg (fun z=>e (h1.trans z))]; exact ⟨h1,h2⟩
theorem KV.put {kvs:List (κ × V)} {vs:List (κ × Value)} (r:KV kvs vs) (k:κ) {y:V} {u:Value} (ry:RelV y u):KV (Za9 kvs k y) (stored vs k u):=by
 unfold Za9 stored
 rw [r.any k]
 by_cases e:(vs.any fun kv=>decide (kv.1=k))=true
 ·rw [if_pos e,if_pos e]; exact r.repl k ry
 ·rw [if_neg e,if_neg e]; exact Paired.snoc r ⟨rfl,ry⟩
theorem KV.length {kvs:List (κ × V)} {vs:List (κ × Value)} (r:KV kvs vs):kvs.length=vs.length:=Paired.length r
end
theorem ZfS {P:Program} {w:World} {k:Key} {u:Value} (r:RelV (kV k) u):(Yu P w).is k u=true:=by
 cases k with
 | inl i=>obtain ⟨t,e⟩:=(show ∃ t,u=Value.int i t from r); subst e; exact Zee P w i t
 | inr x=>obtain ⟨t,e⟩:=(show ∃ t,u=Value.str x t from r); subst e; exact Zed P w x t
theorem ZcZ {P:Program} {w:World}:∀ {ks:List Key} {us:List Value},Vals (ks.map kV) us->ItemsAre (Yu P w) ks us
 | [],_,r=>by rw [List.map_nil] at r; cases r; exact .nil
 | k::ks,_,r=>by
  rw [List.map_cons] at r
  cases r with
  | cons h t=>exact .cons (ZfS h) (ZcZ t)
noncomputable abbrev KT (H:Hp):List (List Key × V)->List (List Key × Addr × Value)->Prop:=Paired fun p q=>p.1=q.1/\H q.2.1=some (.tup (p.1.map kV))/\RelV p.2 q.2.2
theorem KT.val {H:Hp} {kvs:List (List Key × V)} {xs:List (List Key × Addr × Value)} (r:KT H kvs xs) (k:List Key):RelO (Zaz kvs k) ((atKey xs k).map (·.2)):=by
 induction r with
 | nil=>exact True.intro
 | @cons p q ps qs h t ih =>
  obtain ⟨h1,_,h2⟩:=h
  by_cases e:p.1=k
  ·have e':q.1=k:=h1.symm.trans e
   have b:atKey (q::qs) k=some q.2:=by simp [atKey,List.find?_cons,e']
   rw [ZbP e,b]; exact h2
  ·have e':¬ q.1=k:=fun z=>e (h1.trans z)
   have b:atKey (q::qs) k=atKey qs k:=by simp [atKey,List.find?_cons,e']
   rw [ZbQ e,b]; exact ih
theorem KT.repl {H:Hp} {kvs:List (List Key × V)} {xs:List (List Key × Addr × Value)} (r:KT H kvs xs) (k:List Key) {y:V} {u:Value} (ry:RelV y u) :
  KT H (kvs.map fun kv=>if kv.1=k then (kv.1,y) else kv) (xs.map (putAt k u)):=by
 induction r with
 | nil=>exact .nil
 | @cons p q ps qs h t ih =>
  rw [List.map_cons,List.map_cons]
  refine .cons ?_ ih
  obtain ⟨h1,h2,h3⟩:=h
  unfold putAt
  by_cases e:p.1=k
  ·rw [if_pos e,if_pos (h1.symm.trans e)]; exact ⟨h1,h2,ry⟩
  ·rw [if_neg e,if_neg (fun z=>e (h1.trans z))]; exact ⟨h1,h2,h3⟩
theorem KT.put {H:Hp} {kvs:List (List Key × V)} {xs:List (List Key × Addr × Value)} (r:KT H kvs xs) (k:List Key) {b:Addr} {y:V} {u:Value} (hb:H b=some (.tup (k.map kV))) (ry:RelV y u) :
  KT H (Za9 kvs k y) (storedH xs k b u):=by
 have e:(kvs.any fun kv=>decide (kv.1=k))=(atKey xs k).isSome:=by
  rw [ZdT,(r.val k).isSome_eq,Option.isSome_map]
 unfold Za9 storedH
 rw [e]
 by_cases q:(atKey xs k).isSome=true
 ·rw [if_pos q,if_pos q]; exact r.repl k ry
 ·rw [if_neg q,if_neg q]; exact Paired.snoc r ⟨rfl,hb,ry⟩
theorem KT.keeps {H H':Hp} {kvs:List (List Key × V)} {xs:List (List Key × Addr × Value)} (r:KT H kvs xs) (ht:∀ b ys,H b=some (.tup ys)->H' b=some (.tup ys)):KT H' kvs xs :=
 Paired.mapP r fun _ _ z=>⟨z.1,ht _ _ z.2.1,z.2.2⟩
section
variable {P:Program} {w:World} {H:Hp} {h:Heap} {a:Addr}
theorem Zju {u:HO} (ok:HOk P w H h) (e:Rd H a u):ObjOk P w H h a u:=e.ok ok
theorem Zf1 {kvs:List (Key × V)} (ok:HOk P w H h) (e:Rd H a (.dK kvs)):kvs.length<=sizeLine/\(a==sysModules)=false/\∃ vs,KV kvs vs/\h.DictOf (Yu P w) a vs :=
 show ObjOk P w H h a (.dK kvs) from Zju ok e
theorem ZkX {kvs:List (Key × V)} (ok:HOk P w H h) (e:H a=some (.dK kvs)):kvs.length<=sizeLine/\(a==sysModules)=false/\∃ vs,KV kvs vs/\h.DictOf (Yu P w) a vs:=Zf1 ok (.inl e)
theorem ZdE {ks:List Key} (ok:HOk P w H h) (e:H a=some (.tup (ks.map kV))):(tupleKind (Yu P w)).is h ks a:=by
 obtain ⟨_,its,r,o,h1,h2,n,h3⟩:=(show ObjOk P w H h a (.tup (ks.map kV)) from ok a _ e)
 exact ⟨o,its.toArray,n,h1,h2,congrArg Prod.fst h3,by simpa using ZcZ r⟩
theorem Zf0 {kvs:List (List Key × V)} (ok:HOk P w H h) (e:Rd H a (.dT kvs)):kvs.length<=sizeLine/\(a==sysModules)=false /\
  ∃ xs,KT H kvs xs/\h.DictOfH (tupleKind (Yu P w)) a xs:=by
 obtain ⟨z,y,xs,r,o,es,ep,h1,h2,h3,h4,h5⟩:=(show ObjOk P w H h a (.dT kvs) from Zju ok e)
 refine ⟨z,y,xs,r,o,es,ep,h1,h2,h3,h4,fun x hx=>?_,h5⟩
 have all:∀ {l:List (List Key × V)} {m:List (List Key × Addr × Value)},KT H l m->∀ x∈m,(tupleKind (Yu P w)).is h x.1 x.2.1:=by
  intro l m q
  induction q with
  | nil=>intro x hx; exact nomatch hx
  | @cons p q ps qs hq t ih =>
   intro x hx
   rcases List.mem_cons.mp hx with e | hx
   ·subst e
    exact ZdE ok (by rw [<- hq.1]; exact hq.2.1)
   ·exact ih x hx
 exact all r x hx
theorem ZkW {kvs:List (List Key × V)} (ok:HOk P w H h) (e:H a=some (.dT kvs)):kvs.length<=sizeLine/\(a==sysModules)=false /\
  ∃ xs,KT H kvs xs/\h.DictOfH (tupleKind (Yu P w)) a xs:=Zf0 ok (.inl e)
end
noncomputable def DGet (H:Hp) (a:Addr) (y:V) (r:Option V):Prop :=
 (∃ kvs k,Rd H a (.dK kvs)/\y=kV k/\r=Zaz kvs k)\/∃ kvs k b,Rd H a (.dT kvs)/\y = .ref b/\H b=some (.tup (k.map kV))/\r=Zaz kvs k
noncomputable def DPut (H:Hp) (a:Addr) (y v:V) (H':Hp):Prop :=
 (∃ kvs k,H a=some (.dK kvs)/\y=kV k/\kvs.length<sizeLine/\H'=upd H a (.dK (Za9 kvs k v))) \/
 ∃ kvs k b,H a=some (.dT kvs)/\y = .ref b/\H b=some (.tup (k.map kV))/\kvs.length<sizeLine/\H'=upd H a (.dT (Za9 kvs k v))
theorem DGet.t {H:Hp} {a b:Addr} {kvs:List (List Key × V)} {k:List Key} (e:H a=some (.dT kvs)) (eb:H b=some (.tup (k.map kV))):DGet H a (.ref b) (Zaz kvs k):=.inr ⟨kvs,k,b,.inl e,rfl,eb,rfl⟩
theorem DPut.t {H:Hp} {a b:Addr} {kvs:List (List Key × V)} {k:List Key} {v:V} (e:H a=some (.dT kvs)) (eb:H b=some (.tup (k.map kV))) (hl:kvs.length<sizeLine) :
  DPut H a (.ref b) v (upd H a (.dT (Za9 kvs k v))):=.inr ⟨kvs,k,b,e,rfl,eb,hl,rfl⟩
section
variable {X:Cx} {pins:List (Addr × Obj)} {σ:St} {H:Hp} {s:Shared} {a:Addr} {y v:V} {u r:Value} {o:Option V} {A:Around} {E:Value->Shared->Prop}
theorem Inv.big (I:Inv X pins σ H s):sysModules<s.heap.objs.size:=by
 have h:mainGlobals<s.heap.objs.size:=(I.mod.glob.keeps I.bk).lt
 exact Nat.lt_trans (by decide) h
theorem ZgV {Q:Value->Shared->Prop} (hu:A.units+1<cLine) (I:Inv X pins σ H s) (g:DGet H a y (some v)) (ry:RelV y u) (h:∀ w' s',Inv X pins σ H s'->RelV v w'->Q w' s') :
  wpAny (model X.prog X.w) A (getItem (.ref a) u) Q E s:=by
 rcases g with ⟨kvs,k,e,ey,l⟩ | ⟨kvs,k,b,e,ey,eb,l⟩
 ·subst ey
  obtain ⟨z,hd,vs,rel,dd⟩:=Zf1 I.hok e
  obtain ⟨w',hw,rw'⟩:=RelO.some_of (v:=v) (o:=valueAt vs k) (by rw [l]; exact rel.val k)
  exact wpAny_getItem_of (ZfS ry) dd.mapOf hw (h w' _ (I.tok _) rw')
 ·subst ey
  cases (show u=Value.ref b from ry)
  obtain ⟨z,hd,xs,rel,dd⟩:=Zf0 I.hok e
  obtain ⟨w',hw,rw'⟩:=RelO.some_of (v:=v) (o:=(atKey xs k).map (·.2)) (by rw [l]; exact rel.val k)
  obtain ⟨p,hp,hp2⟩:=Option.map_eq_some_iff.mp hw
  refine wpAny_getItem_heap (tupleKind_room_in1 hu) (ZdE I.hok eb) dd hp ?_
  rw [hp2]
  exact h w' _ (I.tok _) rw'
theorem Zlq {Q:Value->Shared->Prop} (hu:A.units+1<cLine) (I:Inv X pins σ H s) (g:DGet H a y o) (ry:RelV y u) (h:∀ s',Inv X pins σ H s'->Q (.bool o.isSome) s') :
  wpAny (model X.prog X.w) A (compareOp .In u (.ref a)) Q E s:=by
 rcases g with ⟨kvs,k,e,ey,l⟩ | ⟨kvs,k,b,e,ey,eb,l⟩
 ·subst ey
  obtain ⟨z,hd,vs,rel,dd⟩:=Zf1 I.hok e
  refine wpAny_in_of (ZfS ry) hd dd.mapOf ?_
  rw [<- (rel.val k).isSome_eq,<- l]
  exact h _ (I.tok _)
 ·subst ey
  cases (show u=Value.ref b from ry)
  obtain ⟨z,hd,xs,rel,dd⟩:=Zf0 I.hok e
  refine wpAny_in_heap (tupleKind_room_in1 hu) (ZdE I.hok eb) hd dd ?_
  have q:=(rel.val k).isSome_eq
  rw [Option.isSome_map] at q
  rw [<- q,<- l]
  exact h _ (I.tok _)
theorem Zf5 {h':Heap} {t':Nat} {ob:HO} (I:Inv X pins σ H s) (mu:Mut (H a)) (hs:Heap.SameBut a s.heap h') (he:∃ q,h'.get? a=some q) (new:ObjOk X.prog X.w (upd H a ob) h' a ob) :
  Inv X pins σ (upd H a ob) { s with heap:=h',toks:=t' } :=
 I.write (x:=a) (e:=a) mu (.inl rfl) (fun b q hb z=>(hs.2 b hb).trans z) he new
theorem Zke {P:Program} {w:World} {H':Hp} {h':Heap} {kvs:List (Key × V)} {vs:List (Key × Value)} (z:kvs.length<=sizeLine) (hd:(a==sysModules)=false) (rel:KV kvs vs) (dd:h'.DictOf (Yu P w) a vs) :
  ObjOk P w H' h' a (.dK kvs):=⟨z,hd,vs,rel,dd⟩
theorem ZgU {H':Hp} {Q:Unit->Shared->Prop} (hu:A.units+1<cLine) (I:Inv X pins σ H s) (g:DPut H a y v H') (ry:RelV y u) (rv:RelV v r) (h:∀ s',Inv X pins σ H' s'->Q () s') :
  wpAny (model X.prog X.w) A (setItem (.ref a) u r) Q E s:=by
 rcases g with ⟨kvs,k,e,ey,l,eH⟩ | ⟨kvs,k,b,e,ey,eb,l,eH⟩
 ·subst ey eH
  obtain ⟨z,hd,vs,rel,dd⟩:=ZkX I.hok e
  have hz:vs.length<=sizeLine:=by rw [<- rel.length]; exact z
  have hl:(Za9 kvs k v).length<=sizeLine:=by have:=Zbt kvs k v; omega
  refine wpAny_setItem_pairs (hsz:=hz) (ZfS ry) dd fun h' dd' hs=>h _ ?_
  have he:∃ q,h'.get? a=some q:=let ⟨q,_,_,hq,_⟩:=dd'; ⟨q,hq⟩
  exact Zf5 I (by rw [e]; exact True.intro) hs he (Zke hl hd (rel.put k rv) dd')
 ·subst ey eH
  cases (show u=Value.ref b from ry)
  obtain ⟨z,hd,xs,rel,dd⟩:=ZkW I.hok e
  have hz:xs.length<=sizeLine:=by rw [<- Paired.length rel]; exact z
  have hl:(Za9 kvs k v).length<=sizeLine:=by have:=Zbt kvs k v; omega
  refine wpAny_setItem_heap (hsz:=hz) (tupleKind_room_in1 hu) (ZdE I.hok eb) dd fun h' dd' hs=>h _ ?_
  obtain ⟨q,es,ep,hq,h2,h3,h4,_,h5⟩:=dd'
  refine Zf5 I (by rw [e]; exact True.intro) hs ⟨q,hq⟩ ⟨hl,hd,_,(rel.put k eb rv).keeps fun c ys ec=>?_,q,es,ep,hq,h2,h3,h4,h5⟩
  rw [Zh (Yi ec e (fun z=>nomatch z))]
  exact ec
end
section
variable {X:Cx} {pins:List (Addr × Obj)} {σ:St} {H:Hp} {s:Shared} {a:Addr} {kvs:List (Key × V)} {k:Key} {u:Value} {A:Around} {E:Value->Shared->Prop}
end
noncomputable def Zk3 (i:Expr):Prop:=∀ ov iv,subscripted i false ov iv=operate [ov,iv] (getItem ov iv)
theorem ZiA {prog:Program} {w:World} {A:Around} {E:Value->Shared->Prop} {s:Shared} {env:Env} {value slice:Expr} {pos:Pos} {T id:String} {Q:Value->Shared->Prop}
  (hl:typeLookup (.type T) "__getitem__" = pure (some (.builtin id))) (hs:Zk3 slice)
  (h:wpAny (model prog w) A (eval value env) (fun o s₁=>wpAny (model prog w) A (eval slice env) (fun i s₂=>s₂.TypeIs o T/\wpAny (model prog w) A (getItem o i) Q E s₂) E s₁) E s) :
  wpAny (model prog w) A (eval (.Subscript value slice pos) env) Q E s:=by
 refine Subscript_ (wpAny_mono h (fun o s₁ h₁=>wpAny_mono h₁ (fun i s₂ h₂=>?_) fun _ _ x=>x) fun _ _ x=>x)
 obtain ⟨hT,h₂⟩:=h₂
 unfold subscriptTail
 refine wpAny_bind ?_
 rw [getitemInPython_of_ne hT.not_modules]
 refine wpAny_bind (wpAny_specialOf hT hl ?_)
 have fin:wpAny (model prog w) A (subscripted slice false o i) (fun r s₃=>wpAny (model prog w) A (letTemporaryGo value o r >>= fun _=>pure r) Q E s₃) E s₂:=by
  rw [hs o i]
  exact wpAny_operating (wpAny_mono h₂ (fun r s₃ h₃=>wpAny_bind (wpAny_letTemporaryGo (wpAny_pure h₃))) fun _ _ x=>x)
 first
  | exact wpAny_pure (wpAny_bind fin)
  | exact wpAny_bind (wpAny_pure (wpAny_bind fin))
  | exact wpAny_bind fin
theorem Zen {X:Cx} {pins:List (Addr × Obj)} {σ:St} {H:Hp} {s:Shared} {a:Addr} {y:V} {o:Option V} (I:Inv X pins σ H s) (g:DGet H a y o):s.TypeIs (.ref a) "dict":=by
 rcases g with ⟨kvs,k,e,_,_⟩ | ⟨kvs,k,b,e,_,_,_⟩
 ·obtain ⟨_,_,vs,_,dd⟩:=Zf1 I.hok e
  exact dd.typeIs
 ·obtain ⟨_,_,xs,_,dd⟩:=Zf0 I.hok e
  exact dd.typeIs
noncomputable def ZkA (td ty:TE):TE:=fun σ H Q=>td σ H fun x H1=>ty σ H1 fun y H2=>∃ a v,x = .ref a/\DGet H2 a y (some v)/\Q v H2
noncomputable def Zld (ty td:TE):TE:=fun σ H Q=>ty σ H fun y H1=>td σ H1 fun x H2=>∃ a o,x = .ref a/\DGet H2 a y o/\Q (.bl o.isSome) H2
noncomputable def ZkF (td ty tv:TE):TS:=fun D σ H=>tv σ H fun v H1=>td σ H1 fun x H2=>ty σ H2 fun y H3=>∃ a H4,x = .ref a/\DPut H3 a y v H4/\D.nx σ H4
section
variable {X:Cx} {o i e value:Expr} {pos pos' tpos:Pos} {td ty tv:TE}
theorem Zdw (hu:X.A.units+1<cLine) (ho:PE X o td) (hi:PE X i ty) (hs:Zk3 i):PE X (.Subscript o i pos) (ZkA td ty):=by
 intro pins s σ H Q I h
 refine ZiA PySem.F.slot_dict_getitem.lookup hs (thn (ho pins s σ H _ I h) fun u s1 ⟨x,H1,I1,rx,q1⟩=>thn (hi pins s1 σ H1 _ I1 q1) fun iv s2 zz0=>?_)
 obtain ⟨y,H2,I2,ry,a,v,ex,g,q2⟩:=zz0
 subst ex
 obtain rfl:u=Value.ref a:=rx
 exact ⟨Zen I2 g,ZgV hu I2 g ry fun w' s3 I3 rw'=>⟨v,H2,I3,rw',q2⟩⟩
theorem ZhG (hu:X.A.units+1<cLine) (hi:PE X i ty) (ho:PE X o td):PC X .In i o (Zld ty td):=by
 intro pins s σ H Q I h
 refine thn (hi pins s σ H _ I h) fun iv s1 ⟨y,H1,I1,ry,q1⟩=>thn (ho pins s1 σ H1 _ I1 q1) fun u s2 zz0=>?_
 obtain ⟨x,H2,I2,rx,a,ov,ex,g,q2⟩:=zz0
 subst ex
 obtain rfl:u=Value.ref a:=rx
 exact Zlq hu I2 g ry fun s3 I3=>⟨.bl ov.isSome,H2,I3,rfl,q2⟩
theorem ZiN (hu:X.A.units+1<cLine) (ho:PE X o td) (hi:PE X i ty) (hv:PE X value tv) (hs:swapsWith value (some (.Subscript o i pos')) pos.line X.env=pure false) :
  PS X (.Assign [.Subscript o i pos'] value pos) (ZkF td ty tv):=by
 intro pins s σ H D I h
 refine wpAny_Assign_Subscript (thn (hv pins s σ H _ I h) fun r s1 ⟨v,H1,I1,rv,q1⟩=>thn (ho pins s1 σ H1 _ I1 q1) fun u s2 ⟨x,H2,I2,rx,q2⟩=>thn (hi pins s2 σ H2 _ I2 q2) fun iv s3 zz0=>?_) hs
 obtain ⟨y,H3,I3,ry,a,H4,ex,g,q3⟩:=zz0
 subst ex
 obtain rfl:u=Value.ref a:=rx
 exact ZgU hu I3 g ry rv fun s4 I4=>⟨σ,H4,I4,q3⟩
end
theorem Zil {P:Program} {w:World} {H:Hp} (h:Heap) (hb:sysModules<h.objs.size):ObjOk P w H (h.push { cls:=.type "dict",data:=.dict #[] }) h.objs.size (.dT []) :=
 ⟨Nat.zero_le _,beq_eq_false_iff_ne.mpr (Ne.symm (Nat.ne_of_lt hb)),[],.nil,_,#[],0,Heap.get?_push_size _ rfl,⟨rfl,rfl,rfl⟩,rfl,rfl,List.nodup_nil⟩
noncomputable def ZjH:TE:=fun _ H Q=>∀ p,H p=none->Q (.ref p) (upd H p (.dT []))
section
variable {X:Cx} {pos:Pos}
theorem ZhF:PE X (.Dict [] [] pos) ZjH:=fun pins s σ H Q I h =>
 wpAny_Dict_empty ⟨.ref s.heap.objs.size,_,I.laid (a:=s.heap.objs.size) (o:=.dT []) (t':=s.toks) (fun _ _ q=>Heap.get?_push_of_some _ q) (Nat.le_refl _) (Zil s.heap I.big),rfl,h _ (I.hok.fresh (Nat.le_refl _))⟩
end
section
variable {X:Cx} {pins:List (Addr × Obj)} {σ:St} {H:Hp} {s:Shared} {a:Addr} {y d:V} {u r:Value} {o:Option V} {A:Around} {E:Value->Shared->Prop}
end
section
variable {X:Cx} {o e f:Expr} {apos cpos:Pos} {td ty tx:TE}
end
section
variable {X:Cx} {pins:List (Addr × Obj)} {σ:St} {H:Hp} {s:Shared} {a:Addr} {kvs:List (Key × V)} {A:Around} {E:Value->Shared->Prop}
end
section
variable {X:Cx} {pins:List (Addr × Obj)} {σ:St} {H:Hp} {s:Shared} {a:Addr} {y:V} {u:Value} {A:Around} {E:Value->Shared->Prop}
end
end L2
namespace L2
open PySem PySem.Spec PyProof.Rows
section
variable {X:Cx}
end
section
variable {κ:Type} [DecidableEq κ]
end
end L2
namespace L2
open PySem PySem.Spec PyProof.Rows
section
variable {X:Cx} {es:List Expr} {te:TE} {t:TA} {p:Pos}
end
end L2
namespace L2
open PySem PySem.Spec PyProof.Rows
section
variable {X:Cx} {pins:List (Addr × Obj)} {σ:St} {H:Hp} {s:Shared} {a:Addr} {kvs:List (Key × V)}
end
end L2
namespace L2
open PySem PySem.Spec PyProof.Rows
end L2
namespace L2
open PySem PySem.Spec PyProof.Rows
section
variable {prog:Program} {w:World} {A:Around} {R:Result->Shared->Prop} {κ:Type} [DecidableEq κ] {knd:PySem.KeyKind prog w κ}
end
end L2
namespace L2
open PySem PySem.Spec PyProof.Rows
end L2
namespace L2
open PySem PySem.Spec PyProof.Rows
end L2
namespace L2
open PySem PySem.Spec PyProof.Rows
end L2
namespace L2
open PySem PySem.Spec PyProof.Rows
section
variable {prog:Program} {w:World} {A:Around} {E:Value->Shared->Prop} {s:Shared}
end
end L2
namespace L2
open PySem PySem.Spec PyProof.Rows
end L2
namespace L2
open PySem PySem.Spec PyProof.Rows
section
variable {prog:Program} {w:World} {A:Around} {E:Value->Shared->Prop} {s:Shared}
end
end L2
namespace L2
open PySem PySem.Spec PyProof.Rows
section
variable {prog:Program} {w:World} {A:Around} {R:Result->Shared->Prop} {I:Addr} {fp wr:List Addr} {G:Array GenState->Array GenState->Prop} {P:Nat->Value->Prop} {St:Nat->Shared->Prop}
end
section
variable {prog:Program} {w:World} {A:Around} {E:Value->Shared->Prop} {s:Shared}
end
end L2
namespace L2
open PySem PySem.Spec PyProof.Rows
section
variable {prog:Program} {w:World} {A:Around} {E:Value->Shared->Prop} {s:Shared}
end
end L2
namespace L2
open PySem PySem.Spec PyProof.Rows
end L2
namespace L2
open PySem PySem.Spec PyProof.Rows
section
variable {prog:Program} {w:World} {A:Around} {E:Value->Shared->Prop} {s:Shared} {d:Addr} {es:Array (Int × Value)} {ep:Nat} {ns:List Nat}
end
end L2
namespace L2
open PySem PySem.Spec PyProof.Rows
section
variable {prog:Program} {w:World} {A:Around} {E:Value->Shared->Prop} {s:Shared} {d:Addr} {ns:List Nat}
end
end L2
namespace L2
open PySem PySem.Spec PyProof.Rows
section
variable {prog:Program} {w:World} {A:Around} {E:Value->Shared->Prop} {s:Shared}
end
end L2
namespace L2
open PySem PySem.Spec PyProof.Rows
open AutoSeq1 (wpAny_loadPart')
section
variable (l:Addr) (its:List Value) (n:Nat) (dd:Option Addr) (sl:Array (Option Value)) (t:Tok)
theorem Zff (he:its≠[]):Meets (Builtin.«tuple.__mul__» ⟨[.ref l,.int 1 t],[]⟩) (fun _ R s=>s.heap.get? l=some { cls:=.type "tuple",dict:=dd,data:=.seq its.toArray n,slots:=sl }/\R (.ok (.ret (Value.ref l))) s) :=
 .of_wp fun prog w A R s h=>by
  obtain ⟨hp,g,d,tk,os⟩:=s
  obtain ⟨hl,h⟩:=h
  have f1:=AutoSeq1.idx_int
  have f2:=AutoSeq1.sub_tuple_tuple
  have b1:¬ (decide ((1:Int) < -(2 ^ 63))||decide ((1:Int)>=2 ^ 63))=true:=by decide
  have b2:(its.toArray.isEmpty||(1:Int)==1)=true:=by simp
  wp_walk using wpAny_loadPart' hl
  exact ⟨_,rfl,h⟩
theorem Zfg (he:its≠[]):Meets (Builtin.«tuple.__mul__» ⟨[.ref l,.int 0 t],[]⟩) (fun _ R s=>s.heap.get? l=some { cls:=.type "tuple",dict:=dd,data:=.seq its.toArray n,slots:=sl }/\R (.ok (.ret (Value.ref s.heap.objs.size))) { s with heap:=s.heap.push { cls:=.type "tuple",data:=.seq #[] } }) :=
 .of_wp fun prog w A R s h=>by
  obtain ⟨hp,g,d,tk,os⟩:=s
  obtain ⟨hl,h⟩:=h
  have f1:=AutoSeq1.idx_int
  have f2:=AutoSeq1.sub_tuple_tuple
  have he':its.toArray.isEmpty=false:=by
   cases its with
   | nil=>exact absurd rfl he
   | cons _ _=>rfl
  have b1:¬ (decide ((0:Int) < -(2 ^ 63))||decide ((0:Int)>=2 ^ 63))=true:=by decide
  have b2:¬ (its.toArray.isEmpty||(0:Int)==1)=true:=by rw [he']; decide
  have b3:(decide ((0:Int)<=0)||its.toArray.isEmpty)=true:=by simp
  wp_walk using wpAny_loadPart' hl
  exact ⟨_,rfl,h⟩
end
noncomputable def ZkI:R2:=fun x y H Q=>∃ (l:Addr) (k:Nat) (xs:List V),x = .ref l/\y = .int (k:Int)/\H l=some (.tup xs)/\xs≠[]/\k<1000/\xs.length*k<=sizeLine/\∀ (p:Addr) (H':Hp),Same H H'->H' p=some (.tup (List.replicate k xs).flatten)->Q (.ref p) H'
theorem ZfK {X:Cx}:OpR X (binaryOp .Mult) ZkI:=by
 intro pins s σ H x y v u Q I rx ry h
 obtain ⟨l,k,xs,rfl,rfl,hH,hne,h2,hz,q⟩:=h
 match k with
 | k+2 =>
  refine ZiP pins s σ H _ _ v u Q I rx ry ⟨l,((k+2:Nat):Int),xs,rfl,rfl,hH,hne,by exact Om.k169 h2,by exact Om.k168 h2,by rw [Int.toNat_natCast]; exact hz,fun p hp=>?_⟩
  rw [Int.toNat_natCast]
  exact q p _ (Same.new hp) Zd
 | 1 =>
  cases rx
  obtain ⟨t,rfl⟩:=ry
  obtain ⟨_,its,r,p⟩:=I.hok l _ hH
  obtain ⟨⟨cls,dd,data,sl⟩,e,hc,n,hd⟩:=IsTupN.is p
  simp only at hc hd
  subst hc hd
  have hits:its≠[]:=fun z=>hne (by have:=r.length; rw [z] at this; exact List.length_eq_zero_iff.mp this)
  refine wpAny_binaryOp_repeat_ref (T:="tuple") (U:="int") (by decide) ⟨_,e,rfl⟩ (fun s'=>typeIs_int s' _ t) YQ PySem.F.fills_int_mul PySem.F.slot_int_rmul JK PySem.F.slot_int_index.lookup
   (call_meets PySem.F.slot_int_rmul (typeIs_int s _ t) PySem.F.entry_int_rmul (PySem.F.args_int_rmul_2 _ _) (ZaC l its n dd sl _ t)
    ⟨e,rfl,⟨_,e,rfl⟩,call_meets PySem.F.slot_tuple_mul ⟨_,e,rfl⟩ PySem.F.entry_tuple_mul (PySem.F.args_tuple_mul_2 _ _) (Zff l its n dd sl t hits) ⟨e,?_⟩⟩)
  exact ⟨.ref l,H,I,rfl,q l H (Same.refl _) (by rw [hH]; simp)⟩
 | 0 =>
  cases rx
  obtain ⟨t,rfl⟩:=ry
  obtain ⟨_,its,r,p⟩:=I.hok l _ hH
  obtain ⟨⟨cls,dd,data,sl⟩,e,hc,n,hd⟩:=IsTupN.is p
  simp only at hc hd
  subst hc hd
  have hits:its≠[]:=fun z=>hne (by have:=r.length; rw [z] at this; exact List.length_eq_zero_iff.mp this)
  refine wpAny_binaryOp_repeat_ref (T:="tuple") (U:="int") (by decide) ⟨_,e,rfl⟩ (fun s'=>typeIs_int s' _ t) YQ PySem.F.fills_int_mul PySem.F.slot_int_rmul JK PySem.F.slot_int_index.lookup
   (call_meets PySem.F.slot_int_rmul (typeIs_int s _ t) PySem.F.entry_int_rmul (PySem.F.args_int_rmul_2 _ _) (ZaC l its n dd sl _ t)
    ⟨e,rfl,⟨_,e,rfl⟩,call_meets PySem.F.slot_tuple_mul ⟨_,e,rfl⟩ PySem.F.entry_tuple_mul (PySem.F.args_tuple_mul_2 _ _) (Zfg l its n dd sl t hits) ⟨e,?_⟩⟩)
  exact ⟨.ref _,_,I.laid (t':=s.toks) (o:=.tup []) (fun _ _ q=>Heap.get?_push_of_some _ q) (Nat.le_refl _) ⟨Nat.zero_le _,_,.nil,IsTupN.new _ _⟩,rfl,q _ _ (Same.new I.fresh) Zd⟩
section
variable {prog:Program} {w:World} {A:Around} {E:Value->Shared->Prop} {s:Shared}
open HT in
end
end L2
namespace L2
open PySem PySem.Spec PyProof.Rows
open AutoSeq1 (wpAny_loadPart')
section
variable {prog:Program} {w:World} {A:Around} {E:Value->Shared->Prop} {s:Shared}
end
end L2
namespace L2
open PySem PySem.Spec PyProof.Rows
section
variable {X:Cx} {o i:Expr} {pos:Pos} {td ty:TE}
end
end L2
namespace L2
open PySem PySem.Spec PyProof.Rows
section
variable {M:Model} {A:Around} {E:Value->Shared->Prop} {s:Shared}
theorem ZhZ {base:Heap} {env:Env} {outer:List Env} {L e:Addr} {cls a0:Value} {dx:Option Addr} {Q:Unit->Shared->Prop} (hfr:A.frames=some (env::outer)) (hf:env.frame=some L) (hfl:Heap.FlyingW base (env::outer) e cls a0 s.heap) (hx:Jy s.heap e dx)
  (h:∀ h',Heap.FlyingW base outer e cls a0 h'->s.heap.UpToSlots h'->Jy h' e dx->Q () { s with heap:=h' }):wpAny M A (leaving env (.ref e)) Q E s:=by
 unfold leaving
 refine wpAny_bind (Zjx hfr hf hfl hx fun h1 zz0 up1 d1=>?_)
 obtain ⟨n1,hen,n2,n3⟩:=zz0
 exact ZdJ (s:={ s with heap:=h1 }) n1 hen n2 n3 d1 fun h2 ⟨f1,f2,⟨_,_,f3⟩,f4⟩ up2 d2=>h h2 ⟨f1,f2,f3,f4⟩ (Heap.UpToSlots.trans up1 up2) d2
end
theorem Zfb {P:Program} {w:World} {K:PySem.W.Frag} {mg:Str->Option Value} {base:Heap} {N:List Str} {qual:Str} {scope:Scope} {f:Addr} {cd:Value} {A:Around} {outer:List Env} {s₀:Shared} {H₀:Hp} {E:XK} :
  Zam (CX2 P w) (Z9 (CX2 P w) P w K mg base N qual scope f cd A outer s₀ H₀ E) E:=by
 intro pins σ H s v s' I h
 obtain ⟨e,cls,a0,dx,H',B,rfl,x,d,q⟩:=h
 have nfr:∀ b o,s₀.heap.get? b=some o->b∉frs outer->b∉frs (Z9 (CX2 P w) P w K mg base N qual scope f cd A outer s₀ H₀ E).stack:=fun b o q hb z=>by
  rcases List.mem_cons.mp (I.stkSub b z) with z | z
  ·exact absurd (Nat.lt_of_lt_of_le (Heap.lt_size q) (by rw [z]; exact I.ok.above)) (Nat.lt_irrefl _)
  ·exact hb z
 have infr:∀ b,b∈frs outer->b∈frs (Z9 (CX2 P w) P w K mg base N qual scope f cd A outer s₀ H₀ E).stack:=fun b hb=>by
  show b∈frs (envOfC qual scope s₀.heap.objs.size f cd::outer)
  unfold frs at hb ⊢
  rw [List.filterMap_cons]
  split
  ·exact hb
  ·exact List.mem_cons_of_mem _ hb
 refine ZhZ (base:=B) I.ok.frames rfl x.fly d fun h'' fl up dct=>?_
 refine ⟨e,cls,a0,dx,H',B,rfl,⟨x.os.trans I.os,x.bare,fl,fun b o q n hb=>?_,fun b o q n hb=>?_,fun b o q n=>?_,fun b o q hb=>?_,fun b xs z=>x.tups b xs (I.base.tups b xs z),fun b o u z=>x.frzs b o u (I.base.frzs b o u z),fun b ps z=>?_,x.hok⟩,dct,q⟩
 ·exact x.keep b o (I.base.keep b o q n hb (by simp [Z9])) (I.base.free b o q n (by simp [Z9])) (nfr b o q hb)
 ·obtain ⟨sl,q1⟩:=I.base.slot b o q n hb (by simp [Z9])
  obtain ⟨sl2,q2⟩:=x.slot b _ q1 (I.base.free b o q n (by simp [Z9])) (infr b hb)
  obtain ⟨_,o3,q3,d3⟩:=x.fly.2.2.1.mem (infr b hb)
  rw [q2] at q3
  cases q3
  obtain ⟨sl3,q4⟩:=up b _ q2 d3
  exact ⟨sl3,q4⟩
 ·obtain ⟨o',q1⟩:=I.base.there b o q (by simp [Z9])
  exact x.free b o' q1 (I.base.free b o q n (by simp [Z9]))
 ·obtain ⟨o',q1⟩:=I.base.there b o q (by simp [Z9])
  exact x.there b o' q1 (nfr b o q hb)
 ·obtain ⟨m1,e1⟩:=I.base.tbls b ps z
  obtain ⟨m2,e2⟩:=x.tbls b _ e1
  exact ⟨m1++m2,by rw [e2,Array.append_assoc]⟩
noncomputable def Stay (a:Addr) (H H':Hp):Prop:=∀ b u,b≠a->H b=some u->H' b=some u
theorem Stay.refl (a:Addr) (H:Hp):Stay a H H:=fun _ _ _ h=>h
theorem Stay.trans {a:Addr} {H H1 H2:Hp} (x:Stay a H H1) (y:Stay a H1 H2):Stay a H H2:=fun b u n h=>y b u n (x b u n h)
theorem Stay.of {a:Addr} {H H':Hp} (x:Same H H'):Stay a H H':=fun b u _ h=>x b u h
theorem Stay.put {a:Addr} {H H':Hp} {o:HO} (x:Stay a H H'):Stay a H (upd H' a o):=fun b u n h=>by rw [Zh n]; exact x b u n h
theorem Stay.free {a l:Addr} {H H':Hp} (x:Stay a H H') (hl:l≠a) (h:H' l=none):H l=none:=by
 cases q:H l with
 | none=>rfl
 | some u=>rw [x l u hl q] at h; cases h
theorem Stay.grid {a g:Addr} {H H':Hp} {B:List (List V)} {o:HO} (x:Stay a H H') (ha:H a=some o) (ho:∀ xs,o ≠ .tup xs) (G:GridT H g B):GridT H' g B :=
 let ⟨ps,h,r⟩:=G
 ⟨ps,x _ _ (Yi h ha (fun z=>ho _ z.symm)) h,Paired.mapP r fun _ _ z=>x _ _ (Yi z ha (fun y=>ho _ y.symm)) z⟩
end L2
namespace My
noncomputable abbrev HS:=List (Int × Nat)
noncomputable def look (hs:HS) (x:Int):Option Nat:=(hs.find? fun p=>decide (p.1=x)).map (·.2)
noncomputable def JW (hs:HS) (x:Int) (w:Nat):HS:=if (hs.any fun p=>decide (p.1=x))=true then hs.map (fun p=>if p.1=x then (p.1,w) else p) else hs++[(x,w)]
noncomputable def YN (hs:HS):List Int:=hs.map (·.1)
theorem Zef (x:Int):look [] x=none:=rfl
theorem Yb {p:Int × Nat} {r:HS} {x:Int} (e:p.1=x):look (p::r) x=some p.2:=by simp [look,List.find?_cons,e]
theorem Yc {p:Int × Nat} {r:HS} {x:Int} (e:¬ p.1=x):look (p::r) x=look r x:=by simp [look,List.find?_cons,e]
theorem look_none {x:Int}:∀ {hs:HS},look hs x=none↔x∉YN hs
 | []=>by simp [Zef,YN]
 | p::r=>by
  by_cases e:p.1=x
  ·rw [Yb e]
   simp [YN,e]
  ·rw [Yc e,look_none]
   simp only [YN,List.map_cons,List.mem_cons,not_or]
   exact ⟨fun h=>⟨fun z=>e z.symm,h⟩,fun h=>h.2⟩
theorem Zca {x:Int} {v:Nat}:∀ {hs:HS},look hs x=some v->(x,v)∈hs
 | [],h=>by cases h
 | p::r,h=>by
  by_cases e:p.1=x
  ·rw [Yb e] at h
   cases h
   rw [<- e]
   exact List.mem_cons_self
  ·rw [Yc e] at h
   exact List.mem_cons_of_mem _ (Zca h)
theorem Zbr {x:Int} {v:Nat}:∀ {hs:HS},(YN hs).Nodup->(x,v)∈hs->look hs x=some v
 | [],_,h=>by cases h
 | p::r,nd,h=>by
  rcases List.mem_cons.mp h with z | z
  ·rw [Yb (by rw [<- z])]
   rw [<- z]
  ·have hn:p.1∉YN r:=(List.nodup_cons.mp nd).1
   have:¬ p.1=x:=fun e=>hn (by rw [e]; exact List.mem_map.mpr ⟨_,z,rfl⟩)
   rw [Yc this]
   exact Zbr (List.nodup_cons.mp nd).2 z
theorem Zcr (x:Int):∀ hs:HS,(hs.any fun p=>decide (p.1=x))=(look hs x).isSome
 | []=>rfl
 | p::r=>by
  rw [List.any_cons]
  by_cases e:p.1=x
  ·simp only [Yb e,decide_eq_true e,Bool.true_or,Option.isSome_some]
  ·rw [Yc e,decide_eq_false e,Bool.false_or]
   exact Zcr x r
theorem Zcb (x y:Int) (w:Nat):∀ hs:HS,look (hs.map fun p=>if p.1=x then (p.1,w) else p) y=(look hs y).map fun v=>if y=x then w else v
 | []=>rfl
 | p::r=>by
  rw [List.map_cons]
  by_cases h:p.1=x
  ·rw [if_pos h]
   by_cases e:p.1=y
   ·rw [Yb (p:=(p.1,w)) e,Yb e,Option.map_some,if_pos (e.symm.trans h)]
   ·rw [Yc (p:=(p.1,w)) e,Yc e,Zcb x y w r]
  ·rw [if_neg h]
   by_cases e:p.1=y
   ·rw [Yb e,Yb e,Option.map_some,if_neg (fun z=>h (e.trans z))]
   ·rw [Yc e,Yc e,Zcb x y w r]
theorem ZcU (x y:Int) (w:Nat):∀ hs:HS,look hs x=none->look (hs++[(x,w)]) y=if y=x then some w else look hs y
 | [],_=>by
  by_cases e:x=y
  ·rw [if_pos e.symm]; exact Yb (p:=(x,w)) e
  ·rw [if_neg (fun z=>e z.symm)]; exact Yc (p:=(x,w)) e
 | p::r,hn=>by
  rw [List.cons_append]
  have hk:¬ p.1=x:=fun z=>by rw [Yb z] at hn; cases hn
  rw [Yc hk] at hn
  by_cases e:p.1=y
  ·rw [Yb e,Yb e,if_neg (fun z=>hk (e.trans z))]
  ·rw [Yc e,Yc e,ZcU x y w r hn]
theorem Zb9 (hs:HS) (x y:Int) (w:Nat):look (JW hs x w) y=if y=x then some w else look hs y:=by
 unfold JW
 rw [Zcr]
 cases q:look hs x with
 | none =>
  rw [if_neg (by decide)]
  exact ZcU x y w hs q
 | some v =>
  rw [if_pos (show (some v).isSome=true from rfl),Zcb]
  by_cases e:y=x
  ·rw [if_pos e,e,q,Option.map_some,if_pos rfl]
  ·rw [if_neg e]
   cases look hs y with
   | none=>rfl
   | some u=>rw [Option.map_some,if_neg e]
theorem Zh2 (x:Int) (w:Nat) (hs:HS):YN (hs.map fun p=>if p.1=x then (p.1,w) else p)=YN hs:=by
 unfold YN
 rw [List.map_map]
 refine List.map_congr_left fun p _=>?_
 show (if p.1=x then (p.1,w) else p).1=p.1
 split <;> rfl
theorem ZcT {hs:HS} (x:Int) (w:Nat) (h:(YN hs).Nodup):(YN (JW hs x w)).Nodup:=by
 unfold JW
 rw [Zcr]
 cases q:look hs x with
 | none =>
  rw [if_neg (by decide)]
  unfold YN
  rw [List.map_append]
  refine List.nodup_append.mpr ⟨h,by simp,fun a ha b hb=>?_⟩
  rw [List.map_cons,List.map_nil,List.mem_singleton] at hb
  rintro rfl
  have hb':a=x:=hb
  exact look_none.mp q (hb' ▸ ha)
 | some v =>
  rw [if_pos (show (some v).isSome=true from rfl),Zh2]
  exact h
theorem Zi3 {hs:HS} {x:Int} {w:Nat} {p:Int × Nat} (h:p∈JW hs x w):p∈hs\/p=(x,w):=by
 unfold JW at h
 split at h
 ·obtain ⟨q,hq,e⟩:=List.mem_map.mp h
  split at e
  ·next z=>rw [<- e,z]; exact .inr rfl
  ·rw [<- e]; exact .inl hq
 ·rcases List.mem_append.mp h with z | z
  ·exact .inl z
  ·exact .inr (List.mem_singleton.mp z)
noncomputable def cnt (hs:HS) (ts:List Int) (v:Nat):Nat:=hs.countP fun p=>decide (p.1∉ts)&&decide (p.2=v)
theorem Jv {y:Int} {ts:List Int} (hy:y∉ts) (v:Nat):∀ {hs:HS},(YN hs).Nodup->cnt hs ts v=cnt hs (ts++[y]) v+if look hs y=some v then 1 else 0
 | [],_=>by
  rw [Zef,if_neg (by intro z; cases z)]
  rfl
 | p::r,nd=>by
  have ih:=Jv hy v (List.nodup_cons.mp nd).2
  unfold cnt at ih ⊢
  rw [List.countP_cons,List.countP_cons]
  by_cases e:p.1=y
  ·have hn:look r y=none:=look_none.mpr (e ▸ (List.nodup_cons.mp nd).1)
   rw [hn,if_neg (by intro z; cases z),Nat.add_zero] at ih
   rw [Yb e,ih]
   have h1:(decide (p.1∉ts++[y])&&decide (p.2=v))=false:=by
    rw [decide_eq_false (by rw [e]; simp),Bool.false_and]
   have h2:decide (p.1∉ts)=true:=decide_eq_true (by rw [e]; exact hy)
   rw [h1,h2,Bool.true_and,if_neg Bool.false_ne_true,Nat.add_zero]
   by_cases z:p.2=v
   ·rw [if_pos (decide_eq_true z),if_pos (by rw [z])]
   ·rw [if_neg (by rw [decide_eq_false z]; exact Bool.false_ne_true),if_neg (fun q=>z (Option.some.inj q))]
  ·rw [Yc e,ih]
   have h1:(decide (p.1∉ts++[y])&&decide (p.2=v))=(decide (p.1∉ts)&&decide (p.2=v)):=by
    congr 1
    refine decide_eq_decide.mpr ⟨fun h z=>h (List.mem_append_left _ z),fun h z=>?_⟩
    rcases List.mem_append.mp z with z | z
    ·exact h z
    ·exact e (List.mem_singleton.mp z)
   rw [h1]
   omega
theorem Zco {v:Nat} {hs:HS} (nd:(YN hs).Nodup):∀ {new ts:List Int},(ts++new).Nodup->cnt hs ts v=cnt hs (ts++new) v+new.countP fun y=>decide (look hs y=some v)
 | [],ts,_=>by rw [List.append_nil]; rfl
 | y::new,ts,h=>by
  have e:ts++y::new=(ts++[y])++new:=by rw [List.append_assoc]; rfl
  rw [e] at h ⊢
  have hy:y∉ts:=fun z=>by
   have:=(List.nodup_append.mp (List.nodup_append.mp h).1).2.2 y z y (by simp)
   exact this rfl
  rw [Jv hy v nd,Zco nd h,List.countP_cons]
  by_cases q:look hs y=some v
  ·rw [if_pos q,if_pos (decide_eq_true q)]
   omega
  ·rw [if_neg q,if_neg (by rw [decide_eq_false q]; exact Bool.false_ne_true)]
   omega
theorem Zf7 {y:Int} {ts:List Int} (hy:y∉ts) {hs:HS} (nd:(YN hs).Nodup) (w v:Nat):cnt (JW hs y w) ts v=cnt hs (ts++[y]) v+if v=w then 1 else 0:=by
 rw [Jv hy v (ZcT y w nd),Zb9,if_pos rfl]
 have h2:cnt (JW hs y w) (ts++[y]) v=cnt hs (ts++[y]) v:=by
  unfold JW cnt
  split
  ·rw [List.countP_map]
   refine List.countP_congr fun p _=>?_
   show ((decide ((if p.1=y then (p.1,w) else p).1∉ts++[y])&&decide ((if p.1=y then (p.1,w) else p).2=v))=true↔_)
   by_cases e:p.1=y
   ·rw [if_pos e]
    have:decide (p.1∉ts++[y])=false:=decide_eq_false (by rw [e]; simp)
    show ((decide (p.1∉ts++[y])&&_)=true↔(decide (p.1∉ts++[y])&&_)=true)
    rw [this,Bool.false_and,Bool.false_and]
   ·rw [if_neg e]
  ·rw [List.countP_append,List.countP_cons,List.countP_nil]
   have:(decide ((y,w).1∉ts++[y])&&decide ((y,w).2=v))=false:=by
    rw [decide_eq_false (by simp),Bool.false_and]
   rw [this,if_neg Bool.false_ne_true]
   rfl
 rw [h2]
 congr 1
 by_cases z:v=w
 ·rw [if_pos z,if_pos (by rw [z])]
 ·rw [if_neg z,if_neg (fun q=>z (Option.some.inj q).symm)]
noncomputable abbrev Res:=Bool × HS × List Int
noncomputable def Y8 (rc:Nat->HS->List Int->Res) (w:Nat):List Int->HS->List Int->Res
 | [],hs,ts=>(false,hs,ts)
 | x::xs,hs,ts=>if x∈ts then Y8 rc w xs hs ts else
  match look hs x with
  | none=>(true,JW hs x w,ts++[x])
  | some v =>
   match rc v hs (ts++[x]) with
   | (true,hs',ts')=>(true,JW hs' x w,ts')
   | (false,hs',ts')=>Y8 rc w xs hs' ts'
noncomputable def Yz (L:List (List Int)):Nat->Nat->HS->List Int->Res
 | 0,_,hs,ts=>(false,hs,ts)
 | k+1,w,hs,ts=>Y8 (Yz L k) w (L.getD w []) hs ts
structure OkH (L:List (List Int)) (hs:HS):Prop where
 nd:(YN hs).Nodup
 ed:∀ p∈hs,p.2<L.length/\p.1∈L.getD p.2 []
structure Zko (L:List (List Int)) (U:List Int) (w:Nat) (xs:List Int) (hs:HS) (ts:List Int) (r:Res) where
 new:List Int
 pre:r.2.2=ts++new
 nd:r.2.2.Nodup
 sub:∀ y∈new,y∈U
 keep:∀ y∈ts,look r.2.1 y=look hs y
 ok:OkH L r.2.1
 yes:r.1=true->∀ v,cnt r.2.1 ts v=cnt hs ts v+if v=w then 1 else 0
 no:r.1=false->r.2.1=hs/\(∀ x∈xs,x∈r.2.2)/\∀ y∈r.2.2,y∉ts->∃ v,look hs y=some v/\∀ x∈L.getD v [],x∈r.2.2
noncomputable def free (U ts:List Int):Nat:=U.countP fun y=>decide (y∉ts)
theorem Zjc {U ts:List Int} {x:Int} (hx:x∈U) (hn:x∉ts):free U (ts++[x])<free U ts:=by
 unfold free
 induction U with
 | nil=>cases hx
 | cons y U ih =>
  rw [List.countP_cons,List.countP_cons]
  have mono:∀ U:List Int,U.countP (fun y=>decide (y∉ts++[x]))<=U.countP fun y=>decide (y∉ts):=fun U=>List.countP_mono_left fun y _ h=>by
   simp only [List.mem_append,List.mem_singleton,not_or,decide_eq_true_eq] at h ⊢
   exact h.1
  by_cases e:y=x
  ·subst e
   rw [if_neg (by simp),if_pos (decide_eq_true hn)]
   have:=mono U
   omega
  ·rcases List.mem_cons.mp hx with z | z
   ·exact (e z.symm).elim
   ·have h1:decide (y∉ts++[x])=decide (y∉ts):=by
     refine decide_eq_decide.mpr ⟨fun h q=>h (List.mem_append_left _ q),fun h q=>?_⟩
     rcases List.mem_append.mp q with q | q
     ·exact h q
     ·exact e (List.mem_singleton.mp q)
    rw [h1]
    have:=ih z
    omega
theorem Zjd {U ts new:List Int}:free U (ts++new)<=free U ts:=List.countP_mono_left fun y _ h=>by
 simp only [List.mem_append,not_or,decide_eq_true_eq] at h ⊢
 exact h.1
theorem OkH.put {L:List (List Int)} {hs:HS} (o:OkH L hs) {x:Int} {w:Nat} (hw:w<L.length) (hx:x∈L.getD w []):OkH L (JW hs x w) :=
 ⟨ZcT x w o.nd,fun p hp=>(Zi3 hp).elim (o.ed p) fun e=>by rw [e]; exact ⟨hw,hx⟩⟩
theorem Zbc {L:List (List Int)} {U:List Int} (hU:∀ l∈L,∀ x∈l,x∈U) {k:Nat} (ih:∀ v hs ts,v<L.length->OkH L hs->ts.Nodup->free U ts<k->Nonempty (Zko L U v (L.getD v []) hs ts (Yz L k v hs ts)))
  {w:Nat} (hw:w<L.length):∀ (xs:List Int) (hs:HS) (ts:List Int),(∀ x∈xs,x∈L.getD w [])->OkH L hs->ts.Nodup->free U ts<=k->Nonempty (Zko L U w xs hs ts (Y8 (Yz L k) w xs hs ts))
 | [],hs,ts,_,o,nt,_=>⟨⟨[],(List.append_nil _).symm,nt,fun y h=>(by cases h),fun _ _=>rfl,o,fun h=>(by cases h),fun _=>⟨rfl,fun x h=>(by cases h),fun y h h'=>(h' h).elim⟩⟩⟩
 | x::xs,hs,ts,hxs,o,nt,hf=>by
  have hxw:x∈L.getD w []:=hxs x List.mem_cons_self
  have hxs':∀ x∈xs,x∈L.getD w []:=fun y h=>hxs y (List.mem_cons_of_mem _ h)
  have hxU:x∈U:=by
   rw [List.getD_eq_getElem?_getD,List.getElem?_eq_getElem hw] at hxw
   exact hU _ (List.getElem_mem hw) x hxw
  by_cases e:x∈ts
  ·have hl:Y8 (Yz L k) w (x::xs) hs ts=Y8 (Yz L k) w xs hs ts:=by
    rw [Y8,if_pos e]
   rw [hl]
   obtain ⟨g⟩:=Zbc hU ih hw xs hs ts hxs' o nt hf
   refine ⟨⟨g.new,g.pre,g.nd,g.sub,g.keep,g.ok,g.yes,fun h=>⟨(g.no h).1,fun y hy=>?_,(g.no h).2.2⟩⟩⟩
   rcases List.mem_cons.mp hy with z | z
   ·rw [z,g.pre]; exact List.mem_append_left _ e
   ·exact (g.no h).2.1 y z
  ·have nt1:(ts++[x]).Nodup:=List.nodup_append.mpr ⟨nt,by simp,fun a ha b hb=>by
    rw [List.mem_singleton] at hb
    rintro rfl
    exact e (hb ▸ ha)⟩
   cases q:look hs x with
   | none =>
    have hl:Y8 (Yz L k) w (x::xs) hs ts=(true,JW hs x w,ts++[x]):=by
     rw [Y8,if_neg e,q]
    rw [hl]
    refine ⟨⟨[x],rfl,nt1,fun y h=>by rw [List.mem_singleton.mp h]; exact hxU,fun y hy=>?_,o.put hw hxw,fun _ v=>?_,fun h=>(by cases h)⟩⟩
    ·show look (JW hs x w) y=look hs y
     rw [Zb9,if_neg (fun z:y=x=>e (z ▸ hy))]
    ·show cnt (JW hs x w) ts v=_
     rw [Zf7 e o.nd,Jv e v o.nd,q,if_neg (show ¬ (none:Option Nat)=some v from fun z=>by cases z)]
     rfl
   | some v =>
    have hv:v<L.length:=(o.ed _ (Zca q)).1
    obtain ⟨g⟩:=ih v hs (ts++[x]) hv o nt1 (Nat.lt_of_lt_of_le (Zjc hxU e) hf)
    cases hr:Yz L k v hs (ts++[x]) with
    | mk b r =>
     obtain ⟨hs',ts'⟩:=r
     rw [hr] at g
     cases b with
     | true =>
      have hl:Y8 (Yz L k) w (x::xs) hs ts=(true,JW hs' x w,ts'):=by
       rw [Y8,if_neg e,q]
       simp only [hr]
      rw [hl]
      have gp:ts'=ts++[x]++g.new:=g.pre
      refine ⟨⟨[x]++g.new,by rw [<- List.append_assoc]; exact gp,g.nd,fun y h=>?_,fun y hy=>?_,g.ok.put hw hxw,fun _ u=>?_,fun h=>(by cases h)⟩⟩
      ·rcases List.mem_append.mp h with z | z
       ·rw [List.mem_singleton.mp z]; exact hxU
       ·exact g.sub y z
      ·show look (JW hs' x w) y=look hs y
       rw [Zb9,if_neg (fun z:y=x=>e (z ▸ hy))]
       exact g.keep y (List.mem_append_left _ hy)
      ·show cnt (JW hs' x w) ts u=_
       have h1:cnt hs' (ts++[x]) u=cnt hs (ts++[x]) u+if u=v then 1 else 0:=g.yes rfl u
       rw [Zf7 e g.ok.nd,h1,Jv e u o.nd,q]
       congr 2
       by_cases z:u=v
       ·rw [if_pos z,if_pos (by rw [z])]
       ·rw [if_neg z,if_neg (fun y=>z (Option.some.inj y).symm)]
     | false =>
      have hl:Y8 (Yz L k) w (x::xs) hs ts=Y8 (Yz L k) w xs hs' ts':=by
       rw [Y8,if_neg e,q]
       simp only [hr]
      rw [hl]
      obtain ⟨n1,n2,n3⟩:=g.no rfl
      have n1':hs'=hs:=n1
      subst n1'
      have gp:ts'=ts++[x]++g.new:=g.pre
      have hf':free U ts'<=k:=by
       rw [gp,List.append_assoc]
       exact Nat.le_trans Zjd hf
      obtain ⟨g2⟩:=Zbc hU ih hw xs hs' ts' hxs' o g.nd hf'
      have gp2:=g2.pre
      have hsub:∀ y∈ts',y∈(Y8 (Yz L k) w xs hs' ts').2.2:=fun y hy=>by rw [gp2]; exact List.mem_append_left _ hy
      refine ⟨⟨[x]++g.new++g2.new,gp2.trans ((congrArg (· ++ g2.new) gp).trans (by simp only [List.append_assoc])),g2.nd,fun y h=>?_,fun y hy=>?_,g2.ok,fun h u=>?_,fun h=>⟨(g2.no h).1,fun y hy=>?_,fun y hy hn=>?_⟩⟩⟩
      ·rcases List.mem_append.mp h with h | h
       ·rcases List.mem_append.mp h with z | z
        ·rw [List.mem_singleton.mp z]; exact hxU
        ·exact g.sub y z
       ·exact g2.sub y h
      ·exact g2.keep y (by rw [gp]; exact List.mem_append_left _ (List.mem_append_left _ hy))
      ·have h2:=g2.yes h u
       have hnd:(ts++([x]++g.new)).Nodup:=by rw [<- List.append_assoc,<- gp]; exact g.nd
       have e1:=Zco (v:=u) g2.ok.nd hnd
       have e2:=Zco (v:=u) o.nd hnd
       rw [<- List.append_assoc,<- gp] at e1 e2
       have e3:([x]++g.new).countP (fun y=>decide (look (Y8 (Yz L k) w xs hs' ts').2.1 y=some u))=([x]++g.new).countP fun y=>decide (look hs' y=some u):=by
        refine List.countP_congr fun y hy=>?_
        rw [g2.keep y (by rw [gp,List.append_assoc]; exact List.mem_append_right _ hy)]
       rw [e3] at e1
       omega
      ·rcases List.mem_cons.mp hy with z | z
       ·rw [z]
        exact hsub _ (by rw [gp]; exact List.mem_append_left _ (List.mem_append_right _ (List.mem_singleton.mpr rfl)))
       ·exact (g2.no h).2.1 y z
      ·by_cases hy':y∈ts'
       ·by_cases z:y=x
        ·exact ⟨v,by rw [z]; exact q,fun a ha=>hsub a (n2 a ha)⟩
        ·obtain ⟨u,hu,hc⟩:=n3 y hy' (fun m=>(List.mem_append.mp m).elim hn fun m=>z (List.mem_singleton.mp m))
         exact ⟨u,hu,fun a ha=>hsub a (hc a ha)⟩
       ·exact (g2.no h).2.2 y hy hy'
theorem ZbR {L:List (List Int)} {U:List Int} (hU:∀ l∈L,∀ x∈l,x∈U):∀ (k v:Nat) (hs:HS) (ts:List Int),v<L.length->OkH L hs->ts.Nodup->free U ts<k->Nonempty (Zko L U v (L.getD v []) hs ts (Yz L k v hs ts))
 | 0,_,_,_,_,_,_,h=>absurd h (Nat.not_lt_zero _)
 | k+1,v,hs,ts,hv,o,nt,h=>Zbc hU (ZbR hU k) hv _ hs ts (fun _ h=>h) o nt (Nat.le_of_lt_succ h)
end My
namespace My
noncomputable def Jl (L:List (List Int)) (k:Nat):List Nat->HS->Option (Nat × List Int) × HS
 | [],hs=>(none,hs)
 | w::ws,hs=>match Yz L k w hs [] with
  | (true,hs',_)=>Jl L k ws hs'
  | (false,hs',ts)=>(some (w,ts),hs')
noncomputable def valH (hs:HS) (y:Int):Nat:=(look hs y).getD 0
structure Paper (L:List (List Int)) (hs:HS) (u:Nat) (ts:List Int):Prop where
 hu:u<L.length
 nd:ts.Nodup
 held:∀ y∈ts,∃ v,look hs y=some v/\v<L.length/\v≠u/\∀ x∈L.getD v [],x∈ts
 inj:∀ y∈ts,∀ z∈ts,look hs y=look hs z->y=z
 own:∀ x∈L.getD u [],x∈ts
theorem Zjm {hs:HS} (nd:(YN hs).Nodup) {y:Int} {v:Nat} (h:look hs y=some v):1<=cnt hs [] v:=by
 rw [Jv (y:=y) (ts:=[]) (by simp) v nd,if_pos h]
 exact Om.k167 
theorem Zjl {hs:HS} (nd:(YN hs).Nodup) {y z:Int} {v:Nat} (h:look hs y=some v) (h':look hs z=some v) (ne:y≠z):2<=cnt hs [] v:=by
 rw [Jv (y:=y) (ts:=[]) (by simp) v nd,if_pos h,Jv (y:=z) (ts:=[]++[y]) (by simpa using fun e=>ne e.symm) v nd,if_pos h']
 exact Om.k166 
structure Held (L:List (List Int)) (hs:HS) (w:Nat):Prop where
 ok:OkH L hs
 one:∀ v,cnt hs [] v=if v<w then 1 else 0
theorem Held.inj {L:List (List Int)} {hs:HS} {w:Nat} (h:Held L hs w) {y z:Int} {v:Nat} (hy:look hs y=some v) (hz:look hs z=some v):y=z:=by
 by_cases e:y=z
 ·exact e
 ·have h2:=Zjl h.ok.nd hy hz e
  rw [h.one v] at h2
  split at h2 <;> omega
theorem Held.lt {L:List (List Int)} {hs:HS} {w:Nat} (h:Held L hs w) {y:Int} {v:Nat} (hy:look hs y=some v):v<w:=by
 have h2:=Zjm h.ok.nd hy
 rw [h.one v] at h2
 split at h2
 ·assumption
 ·exact (Om.k165 h2).elim
theorem ZdV {L:List (List Int)} {U:List Int} (hU:∀ l∈L,∀ x∈l,x∈U) {k:Nat} (hk:U.length<k):∀ (m w:Nat) (hs:HS),w+m=L.length->Held L hs w ->
  ((Jl L k (List.range' w m) hs).1=none->Held L (Jl L k (List.range' w m) hs).2 L.length) /\
   ∀ u ts,(Jl L k (List.range' w m) hs).1=some (u,ts)->Paper L (Jl L k (List.range' w m) hs).2 u ts
 | 0,w,hs,hw,h=>⟨fun _=>by rw [<- hw]; exact h,fun u ts e=>by cases e⟩
 | m+1,w,hs,hw,h=>by
  have hwl:w<L.length:=by exact Om.k164 hw
  have hfr:free U []<k:=Nat.lt_of_le_of_lt List.countP_le_length hk
  obtain ⟨g⟩:=ZbR hU k w hs [] hwl h.ok List.nodup_nil hfr
  rw [List.range'_succ]
  cases hr:Yz L k w hs [] with
  | mk b r =>
   obtain ⟨hs',ts'⟩:=r
   rw [hr] at g
   cases b with
   | true =>
    have e:Jl L k (w::List.range' (w+1) m) hs=Jl L k (List.range' (w+1) m) hs':=by
     rw [Jl]
     simp only [hr]
    rw [e]
    refine ZdV hU hk m (w+1) hs' (by exact Om.k163 hw) ⟨g.ok,fun v=>?_⟩
    have:=g.yes rfl v
    rw [show cnt hs' [] v=_ from this,h.one v]
    by_cases a:v<w
    ·rw [if_pos a,if_neg (by exact Om.k162 hw a),if_pos (by exact Om.f2 ‹_›)]
    ·rw [if_neg a]
     by_cases b:v=w
     ·rw [if_pos b,if_pos (by exact Om.k161 hw b)]
     ·rw [if_neg b,if_neg (by exact Om.k160 hw a b)]
   | false =>
    have e:Jl L k (w::List.range' (w+1) m) hs=(some (w,ts'),hs'):=by
     rw [Jl]
     simp only [hr]
    rw [e]
    obtain ⟨n1,n2,n3⟩:=g.no rfl
    have n1':hs'=hs:=n1
    subst n1'
    refine ⟨fun z=>(by cases z),fun u ts z=>?_⟩
    cases z
    refine ⟨hwl,g.nd,fun y hy=>?_,fun y hy z hz q=>?_,n2⟩
    ·obtain ⟨v,hv,hc⟩:=n3 y hy (by simp)
     have:=h.lt hv
     exact ⟨v,hv,by exact Om.k159 hw hwl this,by exact Om.k158 hw this,hc⟩
    ·obtain ⟨v,hv,_⟩:=n3 y hy (by simp)
     exact h.inj hv (q ▸ hv)
theorem Zh4 (L:List (List Int)):Held L [] 0:=⟨⟨List.nodup_nil,fun p h=>by cases h⟩,fun v=>by rw [if_neg (by exact Om.k157 )]; rfl⟩
theorem ZdB:∀ {T S:List Int},T.Nodup->(∀ x∈T,x∈S)->T.length<=S.length
 | [],_,_,_=>Nat.zero_le _
 | x::T,S,nd,h=>by
  have hx:x∈S:=h x List.mem_cons_self
  have ih:=ZdB (T:=T) (S:=S.erase x) (List.nodup_cons.mp nd).2 fun y hy=>by
   have:y≠x:=fun e=>(List.nodup_cons.mp nd).1 (e ▸ hy)
   exact (List.mem_erase_of_ne this).mpr (h y (List.mem_cons_of_mem _ hy))
  rw [List.length_erase_of_mem hx] at ih
  have:0<S.length:=List.length_pos_of_mem hx
  rw [List.length_cons]
  omega
noncomputable def Zdy (hs:HS) (u:Nat) (ts:List Int):List Int:=(u:Int)::ts.map fun y=>((valH hs y:Nat):Int)
theorem Paper.val {L:List (List Int)} {hs:HS} {u:Nat} {ts:List Int} (p:Paper L hs u ts) {y:Int} (hy:y∈ts):look hs y=some (valH hs y):=by
 obtain ⟨v,hv,_⟩:=p.held y hy
 unfold valH
 rw [hv]
 rfl
theorem Paper.nodup {L:List (List Int)} {hs:HS} {u:Nat} {ts:List Int} (p:Paper L hs u ts):(Zdy hs u ts).Nodup:=by
 refine List.nodup_cons.mpr ⟨fun h=>?_,?_⟩
 ·obtain ⟨y,hy,e⟩:=List.mem_map.mp h
  obtain ⟨v,hv,_,hne,_⟩:=p.held y hy
  rw [p.val hy] at hv
  have:=Option.some.inj hv
  exact (Om.k156 e hne this).elim
 ·refine List.nodup_iff_pairwise_ne.mpr (List.pairwise_map.mpr ?_)
  have nd:=p.nd
  have go:∀ {l:List Int},(∀ x∈l,x∈ts)->l.Nodup->l.Pairwise fun a b=>((valH hs a:Nat):Int)≠((valH hs b:Nat):Int):=by
   intro l
   induction l with
   | nil=>intro _ _; exact .nil
   | cons a l ih =>
    intro hs' nd
    refine .cons (fun b hb e=>?_) (ih (fun x hx=>hs' x (List.mem_cons_of_mem _ hx)) (List.nodup_cons.mp nd).2)
    have ha:=hs' a List.mem_cons_self
    have hb':=hs' b (List.mem_cons_of_mem _ hb)
    have:a=b:=p.inj a ha b hb' (by rw [p.val ha,p.val hb']; congr 1; exact Om.e1 ‹_›)
    exact (List.nodup_cons.mp nd).1 (this ▸ hb)
  exact go (fun _ h=>h) nd
theorem Paper.mem {L:List (List Int)} {hs:HS} {u:Nat} {ts:List Int} (p:Paper L hs u ts) {z:Int} (h:z∈Zdy hs u ts):∃ v:Nat,z=(v:Int)/\v<L.length/\∀ x∈L.getD v [],x∈ts:=by
 rcases List.mem_cons.mp h with e | e
 ·exact ⟨u,e,p.hu,p.own⟩
 ·obtain ⟨y,hy,e⟩:=List.mem_map.mp e
  obtain ⟨v,hv,hl,_,hc⟩:=p.held y hy
  rw [p.val hy] at hv
  exact ⟨v,by rw [<- e,Option.some.inj hv],hl,hc⟩
end My
namespace My
noncomputable def Yl (R:List (List Int)) (c:Nat):List Int:=R.map fun r=>r.getD c 0
noncomputable def ZaB (n:Nat):List Int:=(List.range n).map fun (k:Nat)=>(k:Int)
structure OkRows (n:Nat) (R:List (List Int)):Prop where
 len:R.length<=n
 row:∀ r∈R,r.length=n/\r.Nodup/\∀ x∈r,0<=x/\x<(n:Int)
 col:∀ c,c<n->(Yl R c).Nodup
noncomputable def Jp (n:Nat) (R:List (List Int)) (c:Nat):List Int:=(ZaB n).filter fun t=>decide (t∉Yl R c)
noncomputable def Zaw (n:Nat) (R:List (List Int)):List (List Int):=(List.range n).map (Jp n R)
theorem mem_rngI {n:Nat} {x:Int}:x∈ZaB n↔0<=x/\x<(n:Int):=by
 unfold ZaB
 rw [List.mem_map]
 constructor
 ·rintro ⟨k,hk,rfl⟩
  have:=List.mem_range.mp hk
  omega
 ·intro h
  exact ⟨x.toNat,List.mem_range.mpr (by exact Om.k155 h),by exact Om.k154 h⟩
theorem Zb1 (n:Nat):(ZaB n).Nodup:=by
 unfold ZaB
 refine List.nodup_iff_pairwise_ne.mpr (List.pairwise_map.mpr ?_)
 exact (List.nodup_iff_pairwise_ne.mp List.nodup_range).imp fun h e=>h (by exact Om.e1 ‹_›)
theorem ZaL (n:Nat):(ZaB n).length=n:=by rw [ZaB,List.length_map,List.length_range]
theorem Zfv {A B:List Int} (na:A.Nodup) (h:∀ x∈A,x∈B) (hl:B.length<=A.length):∀ x∈B,x∈A:=by
 intro x hx
 by_cases e:x∈A
 ·exact e
 ·exfalso
  have:=ZdB (T:=A) (S:=B.erase x) na fun y hy=>by
   have:y≠x:=fun z=>e (z ▸ hy)
   exact (List.mem_erase_of_ne this).mpr (h y hy)
  rw [List.length_erase_of_mem hx] at this
  have:0<B.length:=List.length_pos_of_mem hx
  exact (Om.k153 hl ‹_› this).elim
theorem ZfE {n:Nat} {r:List Int} (hl:r.length=n) (nd:r.Nodup) (hr:∀ x∈r,0<=x/\x<(n:Int)) {t:Int} (ht:0<=t/\t<(n:Int)):t∈r :=
 Zfv nd (fun x hx=>mem_rngI.mpr (hr x hx)) (by rw [ZaL,hl]; exact Nat.le_refl _) t (mem_rngI.mpr ht)
theorem Zbk {n:Nat} {t:Int} (ht:0<=t/\t<(n:Int)):∀ {R:List (List Int)},(∀ r∈R,r.length=n/\r.Nodup/\∀ x∈r,0<=x/\x<(n:Int))->(∀ c,c<n->(Yl R c).Nodup)->R.length<=(List.range n).countP fun c=>decide (t∈Yl R c)
 | [],_,_=>Nat.zero_le _
 | r::R,hr,hc=>by
  have ih:=Zbk ht (R:=R) (fun r' h=>hr r' (by simp [h])) fun c h=>by
   have:=hc c h
   exact (List.nodup_cons.mp this).2
  obtain ⟨hl,nd,hb⟩:=hr r (by simp)
  have hmem:=ZfE hl nd hb ht
  obtain ⟨i,hi,e⟩:=List.getElem_of_mem hmem
  have hin:i<n:=by exact Om.a2 ‹_› ‹_›
  have hg:r.getD i 0=t:=by rw [List.getD_eq_getElem?_getD,List.getElem?_eq_getElem hi]; exact e
  have hni:t∉Yl R i:=by
   have:r.getD i 0∉Yl R i:=(List.nodup_cons.mp (hc i hin)).1
   rw [hg] at this
   exact this
  have key:∀ (l:List Nat),l.Nodup->i∈l->l.countP (fun c=>decide (t∈Yl R c))+1<=l.countP fun c=>decide (t∈Yl (r::R) c):=by
   intro l
   induction l with
   | nil=>intro _ h; cases h
   | cons c l ih =>
    intro nd h
    have hsub:∀ l:List Nat,l.countP (fun c=>decide (t∈Yl R c))<=l.countP fun c=>decide (t∈Yl (r::R) c):=fun l=>by
     refine List.countP_mono_left fun c _ hc=>?_
     exact decide_eq_true (List.mem_cons_of_mem _ (of_decide_eq_true hc))
    rw [List.countP_cons,List.countP_cons]
    by_cases e:c=i
    ·subst e
     rw [decide_eq_false hni,decide_eq_true (show t∈Yl (r::R) c by show t∈r.getD c 0::_; rw [hg]; exact List.mem_cons_self)]
     have:=hsub l
     simp
     assumption
    ·have hin:i∈l:=by
      rcases List.mem_cons.mp h with z | z
      ·exact absurd z.symm e
      ·exact z
     have:=ih (List.nodup_cons.mp nd).2 hin
     by_cases q:t∈Yl R c
     ·rw [decide_eq_true q,decide_eq_true (show t∈Yl (r::R) c from List.mem_cons_of_mem _ q)]
      simp
      assumption
     ·rw [decide_eq_false q]
      simp
      exact Om.k152 hi this
  have:=key (List.range n) List.nodup_range (List.mem_range.mpr hin)
  rw [List.length_cons]
  omega
theorem Zfr (l:List Nat) (p:Nat->Bool):l.countP (fun c=>!p c)+l.countP p=l.length:=by
 induction l with
 | nil=>rfl
 | cons a l ih =>
  rw [List.countP_cons,List.countP_cons,List.length_cons]
  cases p a <;> simp <;> omega
theorem Zh1 {n:Nat} {R:List (List Int)} (c:Nat):n - R.length<=(Jp n R c).length:=by
 have h:(ZaB n).length<=(Jp n R c).length+(Yl R c).length:=by
  have:=ZdB (T:=ZaB n) (S:=Jp n R c++Yl R c) (Zb1 n) fun x hx=>by
   by_cases e:x∈Yl R c
   ·exact List.mem_append_right _ e
   ·exact List.mem_append_left _ (List.mem_filter.mpr ⟨hx,decide_eq_true e⟩)
  rwa [List.length_append] at this
 rw [ZaL] at h
 unfold Yl at h
 rw [List.length_map] at h
 omega
theorem dbl (T:List Int) (m:Nat->Int->Bool):∀ P:List Nat,(P.map fun p=>T.countP fun t=>m p t).sum=(T.map fun t=>P.countP fun p=>m p t).sum
 | []=>by
  induction T with
  | nil=>rfl
  | cons t T ih=>simpa using ih
 | p::P=>by
  rw [List.map_cons,List.sum_cons,dbl T m P]
  clear dbl
  induction T with
  | nil=>rfl
  | cons t T ih =>
   rw [List.map_cons,List.map_cons,List.sum_cons,List.sum_cons,List.countP_cons,List.countP_cons]
   exact Om.k151 ih
theorem Zhb {α:Type} {f:α->Nat} {d:Nat}:∀ {l:List α},(∀ x∈l,d<=f x)->l.length*d<=(l.map f).sum
 | [],_=>by simp
 | x::l,h=>by
  have:=Zhb (l:=l) fun y hy=>h y (by simp [hy])
  have:=h x (by simp)
  rw [List.map_cons,List.sum_cons,List.length_cons,Nat.succ_mul]
  omega
theorem Zha {α:Type} {f:α->Nat} {d:Nat}:∀ {l:List α},(∀ x∈l,f x<=d)->(l.map f).sum<=l.length*d
 | [],_=>by simp
 | x::l,h=>by
  have:=Zha (l:=l) fun y hy=>h y (by simp [hy])
  have:=h x (by simp)
  rw [List.map_cons,List.sum_cons,List.length_cons,Nat.succ_mul]
  omega
theorem ZcX {n:Nat} {R:List (List Int)} {c:Nat} (h:c<n):(Zaw n R).getD c []=Jp n R c:=by
 unfold Zaw
 rw [List.getD_eq_getElem?_getD,List.getElem?_map,List.getElem?_range h]
 rfl
theorem ZcW (n:Nat) (R:List (List Int)):(Zaw n R).length=n:=by rw [Zaw,List.length_map,List.length_range]
theorem Zid {A B:List Int} (na:A.Nodup) (h:∀ x∈A,x∈B):A.length<=B.countP fun t=>decide (t∈A):=by
 rw [List.countP_eq_length_filter]
 exact ZdB na fun x hx=>List.mem_filter.mpr ⟨h x hx,decide_eq_true hx⟩
theorem Zcm:∀ {A B:List Nat} (p:Nat->Bool),A.Nodup->(∀ x∈A,x∈B)->A.countP p<=B.countP p
 | [],B,p,_,_=>by simp
 | a::A,B,p,nd,h=>by
  have ha:=h a (by simp)
  have ih:=Zcm (A:=A) (B:=B.erase a) p (List.nodup_cons.mp nd).2 fun x hx=>by
   have:x≠a:=fun e=>(List.nodup_cons.mp nd).1 (e ▸ hx)
   exact (List.mem_erase_of_ne this).mpr (h x (by simp [hx]))
  have e:B.countP p=(B.erase a).countP p+if p a then 1 else 0:=by
   have:=(List.perm_cons_erase ha).countP_eq p
   rw [this,List.countP_cons]
  rw [List.countP_cons,e]
  omega
theorem ZhR {n:Nat} {R:List (List Int)} (ok:OkRows n R) (hlt:R.length<n) {hs:HS} {u:Nat} {ts:List Int} (pa:Paper (Zaw n R) hs u ts):False:=by
 let P:List Nat:=u::ts.map (valH hs)
 have eP:Zdy hs u ts=P.map fun (k:Nat)=>(k:Int):=by
  show _=(u:Int)::(ts.map (valH hs)).map _
  rw [List.map_map]
  rfl
 have ndP:P.Nodup:=by
  have:=pa.nodup
  rw [eP] at this
  exact List.nodup_iff_pairwise_ne.mpr ((List.pairwise_map.mp (List.nodup_iff_pairwise_ne.mp this)).imp fun h e=>h (by rw [e]))
 have hP:∀ p∈P,p<n/\∀ x∈Jp n R p,x∈ts:=fun p hp=>by
  obtain ⟨v,e,hv,hx⟩:=pa.mem (z:=(p:Int)) (by rw [eP]; exact List.mem_map.mpr ⟨p,hp,rfl⟩)
  have:v=p:=by exact Om.k150 e
  subst this
  rw [ZcW] at hv
  rw [ZcX hv] at hx
  exact ⟨hv,hx⟩
 have h1:=Zhb (l:=P) (f:=fun p=>ts.countP fun t=>decide (t∈Jp n R p)) (d:=n - R.length) fun p hp=>by
  have nd:(Jp n R p).Nodup:=(Zb1 n).sublist List.filter_sublist
  exact Nat.le_trans (Zh1 p) (Zid nd (hP p hp).2)
 rw [dbl ts (fun p t=>decide (t∈Jp n R p)) P] at h1
 have h2:=Zha (l:=ts) (f:=fun t=>P.countP fun p=>decide (t∈Jp n R p)) (d:=n - R.length) fun t _=>by
  by_cases ht:0<=t/\t<(n:Int)
  ·have hs:=Zbk ht ok.row ok.col
   have hn:=Zfr (List.range n) fun c=>decide (t∈Yl R c)
   rw [List.length_range] at hn
   have hle:P.countP (fun p=>decide (t∈Jp n R p))<=(List.range n).countP fun c=>!decide (t∈Yl R c):=by
    refine Nat.le_trans (Zcm (B:=List.range n) _ ndP fun x hx=>List.mem_range.mpr (hP x hx).1) (List.countP_mono_left fun c _ hc=>?_)
    have:=(List.mem_filter.mp (of_decide_eq_true hc)).2
    simpa using this
   omega
  ·have:P.countP (fun p=>decide (t∈Jp n R p))=0:=by
    rw [List.countP_eq_zero]
    intro p _ hc
    exact ht (mem_rngI.mp (List.mem_filter.mp (of_decide_eq_true hc)).1)
   omega
 have hl:P.length=ts.length+1:=by show (u::ts.map (valH hs)).length=_; rw [List.length_cons,List.length_map]
 rw [hl,Nat.succ_mul] at h1
 have h3:0<n - R.length:=by exact Om.k149 hlt
 exact (Om.k148 h1 h2 h3).elim
theorem OkRows.more {n:Nat} {R:List (List Int)} (ok:OkRows n R) (hlt:R.length<n) {r:List Int} (hl:r.length=n) (nd:r.Nodup) (hm:∀ c,c<n->r.getD c 0∈Jp n R c):OkRows n (R++[r]):=by
 have hb:∀ x∈r,0<=x/\x<(n:Int):=fun x hx=>by
  obtain ⟨i,hi,e⟩:=List.getElem_of_mem hx
  have:=hm i (by exact Om.a2 ‹_› ‹_›)
  rw [List.getD_eq_getElem?_getD,List.getElem?_eq_getElem hi] at this
  have:=(List.mem_filter.mp this).1
  have h2:=mem_rngI.mp this
  rw [<- e]
  exact h2
 refine ⟨by rw [List.length_append]; exact hlt,fun r' h=>?_,fun c hc=>?_⟩
 ·rcases List.mem_append.mp h with h | h
  ·exact ok.row r' h
  ·rw [List.mem_singleton.mp h]
   exact ⟨hl,nd,hb⟩
 ·unfold Yl
  rw [List.map_append]
  refine List.nodup_append.mpr ⟨ok.col c hc,by simp,fun a ha b hb' e=>?_⟩
  have hb2:b=r.getD c 0:=by simpa using hb'
  have h2:=(List.mem_filter.mp (hm c hc)).2
  have h3:r.getD c 0∉Yl R c:=by simpa using h2
  exact h3 (by rw [<- hb2,<- e]; exact ha)
end My
namespace My
theorem Held.has {L:List (List Int)} {hs:HS} {n v:Nat} (h:Held L hs n) (hv:v<n):∃ y,look hs y=some v:=by
 have h1:=h.one v
 rw [if_pos hv] at h1
 unfold cnt at h1
 have h2:0<hs.countP fun p=>decide (p.1∉([]:List Int))&&decide (p.2=v):=by exact Om.k147 h1
 obtain ⟨p,hp,hq⟩:=List.countP_pos_iff.mp h2
 simp only [Bool.and_eq_true,decide_eq_true_eq] at hq
 exact ⟨p.1,Zbr h.ok.nd (by rw [<- hq.2]; exact hp)⟩
structure OkRow (n:Nat) (A:List (List Int)) (r:List Int):Prop where
 len:r.length=n
 nd:r.Nodup
 at_:∀ c,c<n->r.getD c 0∈Jp n A c
theorem Ze8 {n:Nat} {R:List (List Int)} (ok:OkRows n R) (hlt:R.length<n):∃ r,OkRow n R r:=by
 have hU:∀ l∈Zaw n R,∀ x∈l,x∈ZaB n:=fun l hl x hx=>by
  obtain ⟨c,_,rfl⟩:=List.mem_map.mp hl
  exact (List.mem_filter.mp hx).1
 have g:=ZdV (L:=Zaw n R) (U:=ZaB n) hU (k:=n+1) (by rw [ZaL]; exact Om.k146 ) (Zaw n R).length 0 [] (by exact Om.k145 ) (Zh4 _)
 generalize Jl (Zaw n R) (n+1) (List.range' 0 (Zaw n R).length) []=z at g
 obtain ⟨o,hs⟩:=z
 cases o with
 | some p=>exact (ZhR ok hlt (g.2 p.1 p.2 rfl)).elim
 | none =>
  have hd:=g.1 rfl
  rw [ZcW] at hd
  let pick:Nat->Int:=fun v=>if h:v<n then Classical.choose (hd.has h) else 0
  have hp:∀ v,v<n->look hs (pick v)=some v:=fun v hv=>by
   show look hs (if h:v<n then Classical.choose (hd.has h) else 0)=some v
   rw [dif_pos hv]
   exact Classical.choose_spec (hd.has hv)
  refine ⟨(List.range n).map pick,by rw [List.length_map,List.length_range],?_,fun c hc=>?_⟩
  ·refine List.nodup_iff_pairwise_ne.mpr (List.pairwise_map.mpr ?_)
   refine List.Pairwise.imp_of_mem ?_ (List.nodup_iff_pairwise_ne.mp List.nodup_range)
   intro a b ha hb hne e
   have h1:=hp a (List.mem_range.mp ha)
   rw [e,hp b (List.mem_range.mp hb)] at h1
   exact hne (Option.some.inj h1).symm
  ·have e:((List.range n).map pick).getD c 0=pick c:=by
    rw [List.getD_eq_getElem?_getD,List.getElem?_map,List.getElem?_range hc]
    rfl
   rw [e]
   have h2:=(hd.ok.ed _ (Zca (hp c hc))).2
   rw [ZcX hc] at h2
   exact h2
theorem OkRow.more {n:Nat} {R:List (List Int)} {r:List Int} (h:OkRow n R r) (ok:OkRows n R) (hlt:R.length<n):OkRows n (R++[r]):=ok.more hlt h.len h.nd h.at_
noncomputable def Yp (n:Nat) (A:List (List Int)) (row:List Int):List Int:=(ZaB n).filter fun t=>decide (t∉row)&&decide (t∉Yl A row.length)
structure PRow (n:Nat) (A:List (List Int)) (row:List Int):Prop where
 len:row.length<=n
 nd:row.Nodup
 at_:∀ c,c<row.length->row.getD c 0∈Jp n A c
theorem PRow.nil (n:Nat) (A:List (List Int)):PRow n A []:=⟨Nat.zero_le _,List.nodup_nil,fun c h=>absurd h (Nat.not_lt_zero _)⟩
theorem PRow.full {n:Nat} {A:List (List Int)} {row:List Int} (p:PRow n A row) (h:row.length=n):OkRow n A row:=⟨h,p.nd,fun c hc=>p.at_ c (by exact Om.a1 ‹_› ‹_›)⟩
theorem PRow.next {n:Nat} {A:List (List Int)} {row:List Int} (p:PRow n A row) (h:row.length<n) {t:Int} (ht:t∈Yp n A row):PRow n A (row++[t]):=by
 obtain ⟨h1,h2⟩:=List.mem_filter.mp ht
 simp only [Bool.and_eq_true,decide_eq_true_eq] at h2
 refine ⟨by rw [List.length_append]; exact h,List.nodup_append.mpr ⟨p.nd,by simp,fun a ha b hb=>by
  rw [List.mem_singleton] at hb
  rintro rfl
  exact h2.1 (hb ▸ ha)⟩,fun c hc=>?_⟩
 rw [List.length_append] at hc
 have hc':c<row.length+1:=hc
 by_cases e:c<row.length
 ·have:=p.at_ c e
  rw [List.getD_eq_getElem?_getD,List.getElem?_append_left e,<- List.getD_eq_getElem?_getD]
  exact this
 ·have ec:c=row.length:=by exact Om.k136 hc' e
  subst ec
  rw [List.getD_eq_getElem?_getD,List.getElem?_append_right (Nat.le_refl _),Nat.sub_self]
  exact List.mem_filter.mpr ⟨h1,decide_eq_true h2.2⟩
theorem ZiX {n:Nat} {A:List (List Int)} {row r:List Int} (h:row.length<n) (o:OkRow n A r) (hp:row <+: r):∃ t∈Yp n A row,row++[t] <+: r:=by
 obtain ⟨tl,rfl⟩:=hp
 have hl:=o.len
 rw [List.length_append] at hl
 cases tl with
 | nil=>simp at hl; exact (Om.k144 h hl).elim
 | cons t tl =>
  refine ⟨t,?_,⟨tl,by simp⟩⟩
  have h1:=o.at_ row.length (by assumption)
  rw [List.getD_eq_getElem?_getD,List.getElem?_append_right (Nat.le_refl _),Nat.sub_self] at h1
  obtain ⟨h2,h3⟩:=List.mem_filter.mp h1
  refine List.mem_filter.mpr ⟨h2,?_⟩
  have h4:=List.nodup_append.mp o.nd
  simp only [Bool.and_eq_true]
  exact ⟨decide_eq_true fun z=>h4.2.2 t z t List.mem_cons_self rfl,h3⟩
theorem Zix {len:Nat} (h:0<len) (t:Int) {i:Nat} (hi:i<len):∃ j:Nat,j<len/\(t+(j:Int)) % (len:Int)=(i:Int):=by
 have hl:(0:Int)<(len:Int):=by exact Om.k11 h
 have h1:=Int.emod_nonneg ((i:Int) - t) (by exact Om.k143 h:(len:Int)≠0)
 have h2:=Int.emod_lt_of_pos ((i:Int) - t) hl
 refine ⟨(((i:Int) - t) % (len:Int)).toNat,by exact Om.k138 h1 h2,?_⟩
 rw [Int.toNat_of_nonneg h1,Int.add_emod,Int.emod_emod_of_dvd _ (Int.dvd_refl _),<- Int.add_emod]
 rw [show t+((i:Int) - t)=(i:Int) by exact Om.k142 ]
 exact Int.emod_eq_of_lt (by exact Om.c6) (by exact Om.c5 ‹_›)
end My
namespace L2
open PySem PySem.Spec PyProof.Rows
section
variable {M:Model} {A:Around} {E:Value->Shared->Prop} {s:Shared}
end
section
variable {X:Cx} {pins:List (Addr × Obj)} {σ:St} {H₁:Hp} {s₁:Shared}
end
section
variable {X:Cx} {elt tg iter:Expr} {ifs:List Expr} {scope:Scope} {pos spos:Pos} {wi:TI} {g:TG} {tt:TT} {te:TE}
end
end L2
namespace My
open PySem L2
noncomputable def top (i:Nat):Stmt:=PySem.Challenge.pw_latinclose_k25_whole_closed_just_where.main.body.getD i (.Pass ⟨0,0,0,0⟩)
noncomputable abbrev JS:Stmt:=ZdH (top 2) 0
noncomputable abbrev YY:Stmt:=top 4
noncomputable abbrev ZaJ:Stmt:=top 5
noncomputable abbrev J4:Stmt:=top 6
noncomputable abbrev Je:Stmt:=top 8
noncomputable abbrev Y0:Stmt:=top 9
noncomputable abbrev Jc:Stmt:=top 10
noncomputable abbrev Jb:Stmt:=top 11
noncomputable abbrev Z7:Stmt:=top 13
noncomputable abbrev Z6:Stmt:=top 14
noncomputable abbrev Ym:Stmt:=top 15
noncomputable abbrev ZY:Stmt:=top 16
noncomputable abbrev JG:Stmt:=top 17
noncomputable abbrev J7:Stmt:=ZdH (top 19) 0
noncomputable abbrev J6:Stmt:=ZdH (top 19) 1
noncomputable abbrev Zbo:Stmt:=top 20
noncomputable abbrev JJ:Stmt:=top 21
noncomputable abbrev Zbp:Stmt:=top 23
noncomputable abbrev YO:Stmt:=top 24
noncomputable abbrev ZaK:Stmt:=top 26
noncomputable abbrev YF:Stmt:=top 27
noncomputable abbrev JH:Stmt:=top 28
noncomputable abbrev Jt:Stmt:=top 29
noncomputable abbrev JR:Stmt:=top 30
noncomputable abbrev JA:Stmt:=top 31
noncomputable abbrev YZ:Stmt:=top 32
noncomputable abbrev YX:Stmt:=top 33
noncomputable abbrev Zaa:Stmt:=top 34
noncomputable abbrev Jd:Stmt:=top 35
noncomputable abbrev Y1:Stmt:=top 36
noncomputable abbrev J8:Stmt:=top 37
noncomputable abbrev Zbn:Stmt:=top 38
noncomputable abbrev JI:Stmt:=top 39
noncomputable abbrev J5:Stmt:=top 40
noncomputable abbrev J9:Stmt:=top 41
noncomputable abbrev Zbm:Stmt:=top 42
noncomputable abbrev ZbZ:Stmt:=top 43
structure Blt (mg:Str->Option Value):Prop where
 len:mg "len" = none
 range:mg "range" = none
 tuple:mg "tuple" = none
 list:mg "list" = none
 isin:mg "isinstance" = none
 int:mg "int" = none
 bool:mg "bool" = none
 min:mg "min" = none
 sorted:mg "sorted" = none
 all:mg "all" = none
 zip:mg "zip" = none
end My
namespace My
open PySem L2
inductive Zgk (K:PySem.W.Frag) (vs:List V) (H:Hp) (Q:VK):Prop where
 | mk (a:Addr) (ns:List Int) (k:Nat) (_:vs=[.ref a,.int k]) (_:SqL K H a (ns.map V.int)) (_:∀ z:Int,Q (.int z) H):Zgk K vs H Q
noncomputable def Ze4 (K:PySem.W.Frag):Sp:=fun vs H Q _=>Zgk K vs H Q
inductive Zdg (vs:List V) (H:Hp) (Q:VK):Prop where
 | mk (cell:Int) (m:Nat) (z:Int) (_:vs=[.int cell,.int (m:Int),.int z]) (_:m<=1000) (_:0<z) (_:z<1073741824) (_:∀ l H' (ns:List Int),H l=none->Same H H'->H' l=some (.lst (ns.map V.int))->ns.length=m->(∀ x∈ns,0<=x/\x<z)->Q (.ref l) H'):Zdg vs H Q
noncomputable def ZaH:Sp:=fun vs H Q _=>Zdg vs H Q
section
variable {P:Program} {w:World} {K:PySem.W.Frag} {mg:Str->Option Value} {base:Heap}
theorem ZjP:Zt ["_law_script","_law_k"] ["_law_script","_law_k"] (Zf ZaK):=⟨rfl,rfl,rfl,by decide +kernel,rfl,by decide +kernel,by decide +kernel⟩
theorem ZfN {f:Addr} {fd:FuncData} (F:Fun K "_law_cell_at" "_law_cell_at" ZaK f fd) (T:Blt mg):FnOk P w K mg base CX0 1 f fd ["_law_script","_law_k"] (Ze4 K):=by
 refine F.ok ZjP (fun vs H Q E h=>?_) (fun cdv A outer s H vs Q E hr h=>?_)
 ·obtain ⟨a,ns,k,rfl,_⟩:=h
  rfl
 ·obtain ⟨a,ns,k,rfl,hS,q⟩:=h
  refine ⟨_,Ze (ZZ (Zx ZhI (pv 1) (Zw (Zu K) rfl T.len PySem.boot_len (Za (pv 0) Zc)) (ZN _)) (Zg (Zv (Zz YK (pv 0) (pv 1) (fun _ _=>rfl)))) ZE)
   (Zg (Zv Zi)),?_⟩
  refine ⟨_,rfl,_,rfl,a,_,rfl,.inl hS,_,_,rfl,rfl,_,rfl,?_⟩
  refine YD (fun hc=>?_) (fun _=>q 0)
  have hlt:k<ns.length:=by
   have:=of_decide_eq_true hc
   rw [List.length_map] at this
   omega
  have hat:(ns.map V.int)[k]? = some (.int ns[k]):=by rw [List.getElem?_map]; simp [hlt]
  exact ⟨_,rfl,_,rfl,a,_,_,_,rfl,rfl,hS,ZF hat,q _⟩
theorem ZkP (x:Int) : -(2 ^ 64)<x % 2147483647/\x % 2147483647<2 ^ 64 :=
 ⟨Int.lt_of_lt_of_le (by decide) (Int.emod_nonneg _ (by decide)),Int.lt_trans (Int.emod_lt_of_pos _ (by decide)) (by decide)⟩
theorem scDigits:Zt ["_law_cell","_law_many","_law_most","_law_found","_law_number","_law_k","_law_mixed"] ["_law_cell","_law_many","_law_most"] (Zf YF):=⟨rfl,rfl,rfl,by decide +kernel,rfl,by decide +kernel,by decide +kernel⟩
theorem Zba {f:Addr} {fd:FuncData} (F:Fun K "_law_digits" "_law_digits" YF f fd) (T:Blt mg):FnOk P w K mg base CX0 1 f fd ["_law_cell","_law_many","_law_most"] ZaH:=by
 refine F.ok scDigits (fun vs H Q E h=>?_) (fun cdv A outer s H vs Q E hr h=>?_)
 ·obtain ⟨_,_,_,rfl,_⟩:=h
  rfl
 ·obtain ⟨cell,m,z,rfl,hm,hz,hz2,k⟩:=h
  refine' ⟨_,Ze (Zq (i:=3) scDigits.nd rfl (Or.inl rfl) (Yv Zc)) (Ze (Zq (i:=4) scDigits.nd rfl (Or.inl rfl) (Zl ZS (pv 0) Zi))
   (Ze (Yf PassesOwn.never rfl (ZB rfl T.range (Za (pv 1) Zc)) (ZG (i:=5) scDigits.nd rfl (Or.inl rfl)) (Zg (ZZ (Zx JD (Zl ZM (pv 0) Zi) Zi (ZN _)) (Ze ?a0 (Zg ?a1)) (Ze ?b0 (Ze ?b1 (Zg ?b2))))))
   (Zg (Zv (pv 3))))),?rd⟩
  case a0=>exact Ys (JC PySem.F.plainAttrs_list PySem.F.slot_list_append PySem.F.type_list_append Z5 (pv 3) (Za (Zl ZM (pv 4) (pv 2)) Zc))
  case a1=>exact Zq (i:=4) scDigits.nd rfl (Or.inl rfl) (Zl ZS (pv 4) (pv 2))
  case b0=>exact Zq (i:=6) scDigits.nd rfl (Or.inl rfl) (Zl ZM (Zl Yo (Zl Yg (Zl Yg (Zl ZM (pv 4) Zi) (Zl Yo Zi (pv 5))) Zi) Zi) Zi)
  case b1=>exact Zq (i:=6) scDigits.nd rfl (Or.inl rfl) (Zl ZM (Zl Yg (Zl Yg (Zl Yo (pv 6) (pv 6)) (Zl Yo Zi (pv 5))) Zi) Zi)
  case b2=>exact Ys (JC PySem.F.plainAttrs_list PySem.F.slot_list_append PySem.F.type_list_append Z5 (pv 3) (Za (Zl ZM (Zl ZS (Zl ZM (Zl Yo (pv 6) Zi) Zi) Zi) (pv 2)) Zc))
  case rd =>
   refine ⟨Nat.zero_le _,fun l hl=>?_⟩
   have sm1:Same H (upd H l (.lst [])):=Same.new hl
   refine ⟨_,rfl,_,_,rfl,rfl,⟨by decide,by decide⟩,?_⟩
   refine ⟨_,rfl,(m:Int),rfl,by exact Om.c2,by exact Om.c1 ‹_› rfl,?_⟩
   rw [Int.toNat_natCast]
   refine ZU (lo:=0) (n:=m) (fun i σ H2=>∃ (num:Int) (kk mx:Option V) (ns:List Int),σ=[some (.int cell),some (.int (m:Int)),some (.int z),some (.ref l),some (.int num),kk,mx]/\H2 l=some (.lst (ns.map V.int))/\Same H H2/\ns.length=i/\∀ x∈ns,0<=x/\x<z)
    ⟨cell / 2,none,none,[],rfl,Zd,sm1,rfl,fun x hx=>by cases hx⟩ ?_ ?_
   ·rintro i σ H2 hi ⟨num,kk,mx,ns,rfl,hl2,sm2,hlen,hb⟩
    rw [Int.zero_add]
    have hls:(ns.map V.int).length<sizeLine:=by rw [List.length_map]; exact ZD (by exact Om.b5 ‹_› ‹_› ‹_› rfl)
    have fin:∀ (y:Int),0<=y->y<z->∀ (num':Int) (mx':Option V),∃ (num:Int) (kk mx:Option V) (ns_1:List Int),[some (V.int cell),some (.int (m:Int)),some (.int z),some (.ref l),some (.int num'),some (.int (i:Int)),mx']=[some (.int cell),some (.int (m:Int)),some (.int z),some (.ref l),some (.int num),kk,mx] /\
      (upd H2 l (.lst (ns.map V.int++[.int y]))) l=some (.lst (ns_1.map V.int))/\Same H (upd H2 l (.lst (ns.map V.int++[.int y])))/\ns_1.length=i+1/\∀ x∈ns_1,0<=x/\x<z:=fun y h0 h1 num' mx'=>by
     refine ⟨num',_,mx',ns++[y],rfl,?_,sm2.upd_new hl,by rw [List.length_append,hlen]; rfl,fun x hx=>?_⟩
     ·rw [Zd,List.map_append]
      rfl
     ·rcases List.mem_append.mp hx with hx | hx
      ·exact hb x hx
      ·rw [List.mem_singleton.mp hx]
       exact ⟨h0,h1⟩
    refine ⟨_,rfl,_,_,rfl,rfl,(by show (0:Int)<2; decide),rfl,_,rfl,?_⟩
    refine YD (fun _=>?_) (fun _=>?_)
    ·refine ⟨_,rfl,.inl ⟨rfl,_,SqL.of hl2⟩,_,rfl,_,rfl,_,_,rfl,rfl,hz,l,_,_,rfl,rfl,hl2,hls,?_⟩
     refine ⟨_,rfl,_,rfl,_,_,rfl,rfl,⟨hz,hz2⟩,?_⟩
     exact fin _ (Int.emod_nonneg _ (by exact Om.k141 hz hz2)) (Int.emod_lt_of_pos _ hz) _ _
    ·refine ⟨_,rfl,_,_,rfl,rfl,(by show (0:Int)<2147483629; decide),_,rfl,_,_,rfl,rfl,.inl ⟨by decide,by decide⟩,_,_,rfl,rfl,_,_,rfl,rfl,_,_,rfl,rfl,.inr ⟨by decide,by decide⟩,_,_,rfl,rfl,(by show (0:Int)<2147483647; decide),?_⟩
     refine ⟨_,rfl,_,rfl,_,_,rfl,rfl,.inl (ZkP _),_,rfl,_,_,rfl,rfl,.inl ⟨by decide,by decide⟩,_,_,rfl,rfl,_,_,rfl,rfl,_,_,rfl,rfl,(by show (0:Int)<2147483629; decide),?_⟩
     refine ⟨_,rfl,.inl ⟨rfl,_,SqL.of hl2⟩,_,rfl,_,_,rfl,rfl,.inr ⟨by decide,by decide⟩,_,_,rfl,rfl,(by show (0:Int)<2147483587; decide),_,_,rfl,rfl,⟨by decide,by decide⟩,_,rfl,_,_,rfl,rfl,hz,l,_,_,rfl,rfl,hl2,hls,?_⟩
     exact fin _ (Int.emod_nonneg _ (by exact Om.k141 hz hz2)) (Int.emod_lt_of_pos _ hz) _ _
   ·rintro σ H2 ⟨num,kk,mx,ns,rfl,hl2,sm2,hlen,hb⟩
    exact ⟨_,rfl,k l H2 ns hl sm2 hl2 hlen hb⟩
end
end My
namespace My
open PySem L2
noncomputable def LLs (H:Hp) (a:Addr) (L:List (List Int)):Prop:=∃ ps:List Addr,H a=some (.lst (ps.map V.ref))/\Paired (fun p l=>H p=some (.lst (l.map V.int))) ps L
theorem LLs.same {c:Addr} {H H1:Hp} {L:List (List Int)} (g:LLs H c L) (x:Same H H1):LLs H1 c L :=
 let ⟨ps,h,r⟩:=g
 ⟨ps,x _ _ h,Paired.mapP r fun _ _ z=>x _ _ z⟩
theorem Zcg (t:Int):∀ xs:List Int,inV (.int t) (xs.map V.int)=decide (t∈xs)
 | []=>rfl
 | x::xs=>by
  have ih:=Zcg t xs
  unfold inV at ih ⊢
  rw [List.map_cons,List.any_cons,ih]
  show ((x==t)||_)=_
  rw [Bool.eq_iff_iff]
  simp only [Bool.or_eq_true,beq_iff_eq,decide_eq_true_eq,List.mem_cons]
  exact ⟨fun h=>h.elim (fun e=>.inl e.symm) .inr,fun h=>h.elim (fun e=>.inl e.symm) .inr⟩
theorem Zkf {R:List (List Int)} {c:Nat}:((List.range R.length).map fun i=>V.int ((R.getD i []).getD c 0))=(Yl R c).map V.int:=by
 unfold Yl
 refine List.ext_getElem? fun i=>?_
 rw [List.map_map,List.getElem?_map,List.getElem?_map]
 by_cases h:i<R.length
 ·rw [List.getElem?_range h,List.getElem?_eq_getElem h]
  simp [List.getD_eq_getElem?_getD,List.getElem?_eq_getElem h]
 ·rw [List.getElem?_eq_none (by simpa using h),List.getElem?_eq_none (by simpa using h)]
  rfl
theorem ZgS {n:Nat} {A:List (List Int)} {row:List Int}:((List.range n).filterMap fun j=>if (decide (((j:Nat):Int)∉row)&&decide (((j:Nat):Int)∉Yl A row.length))=true then some (V.int ((j:Nat):Int)) else none)=(Yp n A row).map V.int:=by
 unfold Yp ZaB
 induction List.range n with
 | nil=>rfl
 | cons j l ih =>
  rw [List.filterMap_cons,List.map_cons,List.filter_cons]
  cases h:(decide (((j:Nat):Int)∉row)&&decide (((j:Nat):Int)∉Yl A row.length)) with
  | true=>rw [if_pos rfl,if_pos rfl,List.map_cons,ih]
  | false=>rw [if_neg Bool.false_ne_true,if_neg Bool.false_ne_true,ih]
inductive Zev (k:Nat) (vs:List V) (H:Hp) (Q:VK):Prop where
 | mk (aA ar at_:Addr) (n:Nat) (A:List (List Int)) (row ts:List Int) (_:vs=[.ref aA,.ref ar,.int (n:Int),.ref at_]) (_:LLs H aA A) (_:(∀ o∈A,o.length=n)) (_:A.length<=8) (_:H ar=some (.lst (row.map V.int))) (_:PRow n A row) (_:n<=8) (_:H at_=some (.lst (ts.map V.int))) (_:ts.length=n) (_:n - row.length<k) (_:(∀ (p:Addr) (H':Hp) (r:List Int),Same H H'->H' p=some (.lst (r.map V.int))->OkRow n A r->row <+: r->Q (.ref p) H')) (_:(∀ H',Same H H'->(∀ r,OkRow n A r->row <+: r->False)->Q .non H')):Zev k vs H Q
noncomputable def ZfA (k:Nat):Sp:=fun vs H Q _=>Zev k vs H Q
section
variable {P:Program} {w:World} {K:PySem.W.Frag} {mg:Str->Option Value} {base:Heap}
theorem scRowOn:Zt ["_law_above","_law_row","_law_size","_law_turns","_law_ahead","_law_some","_law_k","_law_found"] ["_law_above","_law_row","_law_size","_law_turns"] (Zf JH):=⟨rfl,rfl,rfl,by decide +kernel,rfl,by decide +kernel,by decide +kernel⟩
inductive ZeY (aA:Addr) (ar:Addr) (at_:Addr) (n:Nat) (A:List (List Int)) (row:List Int) (l5:Addr) (l6:Addr) (H6:Hp) (t:Int) (i:Nat) (σ:St) (H7:Hp):Prop where
 | mk (v6 v7:Option V) (_:σ=[some (.ref aA),some (.ref ar),some (.int (n:Int)),some (.ref at_),some (.ref l5),some (.ref l6),v6,v7]) (_:Same H6 H7) (_:∀ j:Nat,j<i->∀ x,(Yp n A row)[((t+(j:Int)) % ((Yp n A row).length:Int)).toNat]? = some x->∀ r,OkRow n A r->row++[x] <+: r->False):ZeY aA ar at_ n A row l5 l6 H6 t i σ H7
theorem Zd6 {f:Addr} {fd:FuncData} (D:Dfn K mg "_law_row_on" JH ["_law_above","_law_row","_law_size","_law_turns"] f fd) (T:Blt mg):∀ k:Nat,FnOk P w K mg base CX0 k f fd ["_law_above","_law_row","_law_size","_law_turns"] (ZfA k)
 | 0=>⟨fun vs H Q E h=>by obtain ⟨_,_,_,_,_,_,_,rfl,_⟩:=h; rfl,fun A outer s H args us vs Q E _ _ _ _ h=>by obtain ⟨_,_,_,_,_,_,_,rfl,_,_,_,_,_,_,_,_,z,_⟩:=h; exact absurd z (Nat.not_lt_zero _)⟩
 | k+1=>by
  have G:=Zd6 D T k
  refine D.F.ok scRowOn (fun vs H Q E h=>?_) (fun cdv A0 outer s H vs Q E hr h=>?_)
  ·obtain ⟨_,_,_,_,_,_,_,rfl,_⟩:=h
   rfl
  ·obtain ⟨aA,ar,at_,n,A,row,ts,rfl,hA,hAn,hA8,hrow,pr,h8,hts,htl,hk,q1,q2⟩:=h
   refine' ⟨_,Ze ?s0 (Ze ?s1 (Ze ?s2 (Ze (Yf PassesOwn.never rfl ?i (ZG (i:=6) scRowOn.nd rfl (Or.inl rfl)) (Ze ?b0 (Zg ?b1))) (Zg (Zv JL))))),?rd⟩
   case s0=>exact ZZ (Zx JD (Zw (Zu K) rfl T.len PySem.boot_len (Za (pv 1) Zc)) (pv 2) (ZN _)) (Zg (Zv (pv 1))) ZE
   case s1=>exact Zq (i:=4) scRowOn.nd rfl (Or.inr rfl) (Y7 ["_law_one","_law_row"] [none,some 1] rfl rfl (Jn K (pv 0)) (fun _ _ _ _ _=>Jo 0) (fun _ _ _ _ _=>YH) (fun _ _ _ _ _=>Zz (Zce K) (pv 0) (Zw (Zu K) rfl T.len PySem.boot_len (Za (pv 1) Zc)) (fun _ _=>rfl)))
   case s2=>exact ZcP (i:=5) ["_law_thing","_law_row","_law_ahead"] [none,some 1,some 4] scRowOn.nd rfl (Or.inl rfl) rfl rfl (ZB rfl T.range (Za (pv 2) Zc)) (fun _ _ _ _ _=>Jo 0) (fun _ _ _ _ _=>YG (PW.pt (Zac (Zx (Yt K) (pv 0) (pv 1) rfl) (Ju (Zx (Yt K) (pv 0) (pv 2) rfl))))) (fun _ _ _ _ _=>pv 0)
   case i=>exact ZB rfl T.range (Za (Zw (Zu K) rfl T.len PySem.boot_len (Za (pv 5) Zc)) Zc)
   case b0=>exact Zq (i:=7) scRowOn.nd rfl (Or.inl rfl) (Zk G hr rfl D.m D.F.kp D.b .nil ZA (Za (pv 0) (Za (Zl Zb5 (pv 1) (Yv (Za (Zz YK (pv 5) (Zl ZM (Zl Yg (Zz YK (pv 3) (Zw (Zu K) rfl T.len PySem.boot_len (Za (pv 1) Zc)) (fun _ _=>rfl)) (pv 6)) (Zw (Zu K) rfl T.len PySem.boot_len (Za (pv 5) Zc))) (fun _ _=>rfl)) Zc))) (Za (pv 2) (Za (pv 3) Zc)))))
   case b1=>exact ZZ (Jm (ZfI (pv 7))) (Zg (Zv (pv 7))) ZE
   case rd =>
    have hrl:(row.map V.int).length=row.length:=List.length_map _
    refine ⟨_,rfl,ar,_,rfl,.inl (SqL.of hrow),_,rfl,rfl,_,rfl,?_⟩
    rw [hrl]
    refine YD (fun hc=>?_) (fun hc=>?_)
    ·have e:row.length=n:=by
      have e:=of_decide_eq_true hc
      injection e with e
      exact Om.e1 ‹_›
     exact ⟨_,rfl,q1 ar H row (Same.refl H) hrow (pr.full e) (List.prefix_refl _)⟩
    have hlt:row.length<n:=by
     have h1:row.length≠n:=fun e=>hc (decide_eq_true (by rw [e]))
     have:=pr.len
     omega
    obtain ⟨ps,hps,hPs⟩:=id hA
    have hpl:(ps.map V.ref).length=A.length:=by rw [List.length_map,hPs.length]
    refine ⟨_,rfl,aA,rfl,⟨_,SqL.of hps⟩,fun l5 hl5=>ZO (fun i=>some (V.int ((A.getD i []).getD row.length 0))) (fun σ=>∃ v,σ=[v,some (.ref ar)]) (Jz (xs:=ps.map V.ref)) (by rw [hpl]; exact Zs (by exact Om.b1 ‹_› rfl)) hl5 (fun H' sm=>SqL.of (sm _ _ hps)) ⟨none,rfl⟩ ?_ ?_⟩
    ·rintro i x σ H' R' hi ⟨v,rfl⟩ sm kk
     rw [List.getElem?_map] at hi
     cases hpi:ps[i]? with
     | none=>rw [hpi] at hi; cases hi
     | some p =>
      rw [hpi] at hi
      cases hi
      obtain ⟨o,ho,hp⟩:=Paired.getL hPs hpi
      have hol:o.length=n:=hAn o (List.mem_of_getElem? ho)
      have hat:(o.map V.int)[row.length]? = some (.int ((A.getD i []).getD row.length 0)):=by
       rw [List.getElem?_map,List.getElem?_eq_getElem (by exact Om.a1 ‹_› ‹_›)]
       simp [List.getD_eq_getElem?_getD,ho,List.getElem?_eq_getElem (show row.length<o.length by exact Om.a1 ‹_› ‹_›)]
      exact ⟨_,rfl,_,rfl,ar,row.map V.int,rfl,.inl (SqL.of (sm _ _ hrow)),p,o.map V.int,(row.length:Int),_,rfl,by rw [hrl],SqL.of (sm _ _ hp),ZF hat,kk _ _ ⟨_,rfl⟩ (Same.refl _)⟩
    intro H5 s5 hl5'
    rw [Z2,hpl,Zkf] at hl5'
    have hrow5:=s5 _ _ hrow
    refine ⟨_,rfl,(n:Int),rfl,by exact Om.c2,by exact Om.c1 ‹_› rfl,fun l6 hl6=>?_⟩
    rw [Int.toNat_natCast]
    refine ZO (fun j=>if (decide (((j:Nat):Int)∉row)&&decide (((j:Nat):Int)∉Yl A row.length))=true then some (V.int ((j:Nat):Int)) else none) (fun σ=>∃ v,σ=[v,some (.ref ar),some (.ref l5)]) (Yj (n:=n)) (by rw [ZR]; exact Zs (by exact Om.b1 ‹_› rfl)) hl6 (fun _ _=>trivial) ⟨none,rfl⟩ ?_ ?_
    ·rintro i x σ H' R' hi ⟨v,rfl⟩ sm kk
     obtain ⟨hin,rfl⟩:=YT hi
     have kk':=fun v'=>kk [v',some (.ref ar),some (.ref l5)] H' ⟨v',rfl⟩ (Same.refl _)
     refine ⟨_,rfl,_,rfl,ar,row.map V.int,rfl,.inl (SqL.of (sm _ _ hrow5)),rfl,Zau row,_,rfl,?_⟩
     have e1:(if true=true then !inV (.int (i:Int)) (row.map V.int) else inV (.int (i:Int)) (row.map V.int))=decide ((i:Int)∉row):=by rw [if_pos rfl,Zcg]; simp
     rw [e1]
     refine YD (fun hc3=>?_) (fun hc3=>?_)
     rotate_left
     ·rw [Bool.not_eq_true] at hc3
      rw [hc3,Bool.false_and,if_neg Bool.false_ne_true] at kk'
      exact Yx (kk' _)
     refine ⟨_,rfl,_,rfl,l5,(Yl A row.length).map V.int,rfl,.inl (SqL.of (sm _ _ hl5')),rfl,Zau _,_,rfl,?_⟩
     have e2:(if true=true then !inV (.int (i:Int)) ((Yl A row.length).map V.int) else inV (.int (i:Int)) ((Yl A row.length).map V.int))=decide ((i:Int)∉Yl A row.length):=by rw [if_pos rfl,Zcg]; simp
     rw [e2]
     rw [hc3,Bool.true_and] at kk'
     refine YD (fun hc4=>?_) (fun hc4=>?_)
     ·rw [if_pos hc4] at kk'
      exact ⟨_,rfl,kk' _⟩
     ·rw [if_neg hc4] at kk'
      exact kk' _
    intro H6 s6 hl6'
    rw [ZR,ZgS] at hl6'
    have sH6:=s5.trans s6
    have hsl:((Yp n A row).map V.int).length=(Yp n A row).length:=List.length_map _
    refine ⟨_,rfl,l6,_,rfl,.inl (SqL.of hl6'),_,rfl,by exact Om.c2,?_,?_⟩
    ·rw [hsl]
     have:(Yp n A row).length<=n:=by
      unfold Yp
      refine Nat.le_trans (List.length_filter_le _ _) ?_
      rw [ZaL]
      exact Nat.le_refl _
     omega
    rw [hsl,Int.toNat_natCast]
    have hts6:=sH6 _ _ hts
    have htat:(ts.map V.int)[row.length]? = some (.int (ts.getD row.length 0)):=by
     rw [List.getElem?_map,List.getElem?_eq_getElem (by exact Om.a1 ‹_› ‹_›)]
     simp [List.getD_eq_getElem?_getD,List.getElem?_eq_getElem (show row.length<ts.length by exact Om.a1 ‹_› ‹_›)]
    generalize ts.getD row.length 0=t at htat
    refine ZU (lo:=0) (n:=(Yp n A row).length) (ZeY aA ar at_ n A row l5 l6 H6 t)
     ⟨none,none,rfl,Same.refl _,fun j h=>absurd h (Nat.not_lt_zero _)⟩ ?_ ?_
    ·rintro i σ H7 hi ⟨v6,v7,rfl,s7,hno⟩
     rw [Int.zero_add]
     have hlen0:(0:Int)<((Yp n A row).length:Int):=by exact Om.k140 hsl hi
     obtain ⟨m,hm,hml⟩:∃ m:Nat,(t+(i:Int)) % ((Yp n A row).length:Int)=(m:Int)/\m<(Yp n A row).length:=by
      have h1:=Int.emod_nonneg (t+(i:Int)) (show ((Yp n A row).length:Int)≠0 by exact Om.k139 hlen0)
      have h2:=Int.emod_lt_of_pos (t+(i:Int)) hlen0
      exact ⟨((t+(i:Int)) % ((Yp n A row).length:Int)).toNat,by exact Om.z1 ‹_›,by exact Om.k138 h1 h2⟩
     have hx:(Yp n A row)[m]? = some (Yp n A row)[m]:=List.getElem?_eq_getElem hml
     have hxm:(Yp n A row)[m]∈Yp n A row:=List.getElem_mem hml
     generalize (Yp n A row)[m]=x at hx hxm
     have hx':((Yp n A row).map V.int)[m]? = some (.int x):=by rw [List.getElem?_map,hx]; rfl
     have sH7:=sH6.trans s7
     refine ⟨_,rfl,_,rfl,_,rfl,_,rfl,_,rfl,ar,_,rfl,.inl (SqL.of (sH7 _ _ hrow)),at_,_,_,_,rfl,rfl,SqL.of (sH7 _ _ hts),by rw [hrl]; exact ZF htat,_,rfl,_,_,rfl,rfl,_,rfl,l6,_,rfl,.inl (SqL.of (s7 _ _ hl6')),_,_,rfl,rfl,by rw [hsl]; exact hlen0,l6,_,_,.int x,rfl,rfl,SqL.of (s7 _ _ hl6'),?_,(show 1<=sizeLine from Zs (by decide)),fun l8 hl8=>?_⟩
     ·show atI _ ((t+(i:Int)) % (((Yp n A row).map V.int).length:Int))=_
      rw [hsl,hm]
      exact ZF hx'
     have s8:Same H7 (upd H7 l8 (.lst [.int x])):=Same.new hl8
     refine ⟨ar,l8,_,_,rfl,rfl,s8 _ _ (sH7 _ _ hrow),Zd,by rw [hrl]; exact Zs (by simp; exact Om.b2 ‹_› ‹_› rfl),fun l9 hl9=>?_⟩
     have s9:Same (upd H7 l8 (.lst [.int x])) (upd (upd H7 l8 (.lst [.int x])) l9 (.lst (row.map V.int++[.int x]))):=Same.new hl9
     have s79:=s8.trans s9
     refine ⟨_,rfl,_,rfl,aA,l9,at_,n,A,row++[x],ts,rfl,hA.same (sH7.trans s79),hAn,hA8,by rw [Zd,List.map_append]; rfl,pr.next hlt hxm,h8,s79 _ _ (sH7 _ _ hts),htl,by rw [List.length_append]; simp; exact Om.k137 htl hk hlt,fun p H8 r sA hp o pf=>?_,fun H8 sA hnone=>?_⟩
     ·refine ⟨_,rfl,_,rfl,Y5 ⟨_,rfl,?_⟩⟩
      exact q1 p H8 r (sH7.trans (s79.trans sA)) hp o (List.IsPrefix.trans (List.prefix_append _ _) pf)
     ·refine ⟨_,rfl,_,rfl,Yx ⟨_,_,rfl,s7.trans (s79.trans sA),fun j hj y hy r o pf=>?_⟩⟩
      by_cases e:j<i
      ·exact hno j e y hy r o pf
      ·have ej:j=i:=by exact Om.k136 hj e
       subst ej
       rw [hm,Int.toNat_natCast,hx] at hy
       cases hy
       exact hnone r o pf
    ·rintro σ H7 ⟨v6,v7,rfl,s7,hno⟩
     refine q2 H7 (sH6.trans s7) fun r o pf=>?_
     obtain ⟨x,hx,pf2⟩:=ZiX hlt o pf
     obtain ⟨i,hi,hxi⟩:=List.getElem_of_mem hx
     obtain ⟨j,hj,hje⟩:=Zix (by exact Om.k135 hsl hi) t hi
     refine hno j hj x ?_ r o pf2
     rw [hje,Int.toNat_natCast,List.getElem?_eq_getElem hi,hxi]
end
end My
namespace My
open PySem L2
theorem ZgO {r:List Int} {ps:List Addr} (h:r≠[]):r.map V.int≠ps.map V.ref:=by
 cases r with
 | nil=>exact absurd rfl h
 | cons x r=>cases ps <;> intro e <;> cases e
theorem LLs.push {a t:Addr} {H:Hp} {R:List (List Int)} {r:List Int} {ps:List Addr} (h:H a=some (.lst (ps.map V.ref))) (hp:Paired (fun p (r:List Int)=>H p=some (.lst (r.map V.int))) ps R) (hR:∀ r∈R,r≠[]) (hr:r≠[]) (ht:H t=some (.lst (r.map V.int))):LLs (upd H a (.lst (ps.map V.ref++[.ref t]))) a (R++[r]):=by
 have ne:∀ (b:Addr) (x:List Int),x≠[]->H b=some (.lst (x.map V.int))->b≠a:=fun b x hx e c=>by
  rw [c,h] at e
  injection e with e
  injection e with e
  exact ZgO hx e.symm
 refine ⟨ps++[t],by rw [Zd,List.map_append]; rfl,Paired.snoc ?_ ?_⟩
 ·have go:∀ (qs:List Addr) (S:List (List Int)),Paired (fun p (r:List Int)=>H p=some (.lst (r.map V.int))) qs S->(∀ r∈S,r≠[])->Paired (fun p (r:List Int)=>upd H a (.lst (ps.map V.ref++[.ref t])) p=some (.lst (r.map V.int))) qs S:=by
   intro qs S x
   induction x with
   | nil=>intro _; exact .nil
   | cons e _ ih =>
    intro hS
    refine .cons ?_ (ih fun r hr=>hS r (List.mem_cons_of_mem _ hr))
    rw [Zh (ne _ _ (hS _ List.mem_cons_self) e)]
    exact e
  exact go _ _ hp hR
 ·rw [Zh (ne _ _ hr ht)]
  exact ht
theorem ZgW {ts:List Int} {n k:Nat} (hl:ts.length=n*n) (hk:k<n):∃ us:List Int,Zal (ts.map V.int) (some ((k:Int)*(n:Int))) (some (((k:Int)+1)*(n:Int)))=us.map V.int/\us.length=n:=by
 have e1:(k:Int)*(n:Int)=((k*n:Nat):Int):=by rw [Int.natCast_mul]
 have e2:((k:Int)+1)*(n:Int)=(((k+1)*n:Nat):Int):=by rw [Int.natCast_mul]; rfl
 have h1:(k+1)*n<=n*n:=Nat.mul_le_mul_right n hk
 have h2:(k+1)*n=k*n+n:=Nat.succ_mul k n
 refine ⟨(ts.drop (k*n)).take n,?_,?_⟩
 ·unfold Zal
  rw [e1,e2,HT.sIx_nat,HT.sIx_nat,List.length_map,hl,Nat.min_eq_left h1,Nat.min_eq_left (show k*n<=n*n by exact Om.k134 hk h1 h2),show (k+1)*n - k*n=n by exact Om.k133 h2,<- List.map_drop,<- List.map_take]
 ·rw [List.length_take,List.length_drop,hl]
  exact Om.k132 hk h1 h2
inductive Zdb (vs:List V) (H:Hp) (Q:VK):Prop where
 | mk (cell:Int) (n:Nat) (_:vs=[.int cell,.int (n:Int)]) (_:1<=n) (_:n<=8) (_:∀ (t:Addr) (H':Hp) (R:List (List Int)),Same H H'->GridT H' t (R.map fun r=>r.map V.int)->OkRows n R->R.length=n->Q (.ref t) H'):Zdb vs H Q
noncomputable def ZbT:Sp:=fun vs H Q _=>Zdb vs H Q
section
variable {P:Program} {w:World} {K:PySem.W.Frag} {mg:Str->Option Value} {base:Heap}
theorem scSquare:Zt ["_law_cell","_law_size","_law_turns","_law_rows","_law_k"] ["_law_cell","_law_size"] (Zf Jt):=⟨rfl,rfl,rfl,by decide +kernel,rfl,by decide +kernel,by decide +kernel⟩
inductive ZeX (cell:Int) (n:Nat) (lt:Addr) (H1:Hp) (lr:Addr) (i:Nat) (σ:St) (H2:Hp):Prop where
 | mk (kk:Option V) (R:List (List Int)) (_:σ=[some (.int cell),some (.int (n:Int)),some (.ref lt),some (.ref lr),kk]) (_:Same H1 H2) (_:LLs H2 lr R) (_:OkRows n R) (_:R.length=i):ZeX cell n lt H1 lr i σ H2
inductive ZeW (H2:Hp) (R:List (List Int)) (lk:Addr) (i:Nat) (ys:List V) (σ:St) (H':Hp):Prop where
 | mk (v:Option V) (qs:List Addr) (_:σ=[v]) (_:ys=qs.map V.ref) (_:Same H2 H') (_:H' lk=some (.lst ys)) (_:Paired (fun p row=>H' p=some (.tup row)) qs ((R.map fun r=>r.map V.int).take i)):ZeW H2 R lk i ys σ H'
theorem ZcR {f fD fR:Addr} {fd dD dR:FuncData} (F:Fun K "_law_square" "_law_square" Jt f fd) (T:Blt mg) (DD:Dfn K mg "_law_digits" YF ["_law_cell","_law_many","_law_most"] fD dD) (DR:Dfn K mg "_law_row_on" JH ["_law_above","_law_row","_law_size","_law_turns"] fR dR) :
  FnOk P w K mg base CX0 10 f fd ["_law_cell","_law_size"] ZbT:=by
 have GD:FnOk P w K mg base CX0 9 fD dD ["_law_cell","_law_many","_law_most"] ZaH:=(Zba DD.F T).mono (by decide)
 have GR:FnOk P w K mg base CX0 9 fR dR ["_law_above","_law_row","_law_size","_law_turns"] (ZfA 9):=Zd6 DR T 9
 refine F.ok scSquare (fun vs H Q E h=>?_) (fun cdv A outer s H vs Q E hr h=>?_)
 ·obtain ⟨_,_,rfl,_⟩:=h
  rfl
 ·obtain ⟨cell,n,rfl,h1,h8,q⟩:=h
  refine' ⟨_,Ze ?s0 (Ze (Zq (i:=3) scSquare.nd rfl (Or.inl rfl) (Yv Zc)) (Ze (Yf PassesOwn.never rfl (ZB rfl T.range (Za (pv 1) Zc)) (ZG (i:=4) scSquare.nd rfl (Or.inl rfl)) (Zg ?b)) (Zg ?r))),?rd⟩
  case s0=>exact Zq (i:=2) scSquare.nd rfl (Or.inl rfl) (Zk GD hr rfl DD.m DD.F.kp DD.b .nil ZA (Za (pv 0) (Za (Zl Yo (pv 1) (pv 1)) (Za (pv 1) Zc))))
  case b=>exact Ys (JC PySem.F.plainAttrs_list PySem.F.slot_list_append PySem.F.type_list_append Z5 (pv 3) (Za (Zk GR hr rfl DR.m DR.F.kp DR.b .nil ZA (Za (pv 3) (Za (Yv Zc) (Za (pv 1) (Za (Yn Zdr (pv 2) (Yy (Zl Yo (pv 4) (pv 1))) (Yy (Zl Yo (Zl Yg (pv 4) Zi) (pv 1)))) Zc))))) Zc))
  case r=>exact Zv (JB (ZbA K) rfl T.tuple Zer (Za (Y7 ["_law_row"] [none] rfl rfl (Jn K (pv 3)) (fun _ _ _ _ _=>Jo 0) (fun _ _ _ _ _=>YH) (fun _ _ _ _ _=>JB (ZbA K) rfl T.tuple Zer (Za (pv 0) Zc))) Zc))
  case rd =>
   have hnn:(n:Int)*(n:Int)=((n*n:Nat):Int):=by rw [Int.natCast_mul]
   have hnn64:n*n<=64:=Nat.mul_le_mul h8 h8
   refine ⟨_,rfl,_,rfl,_,rfl,_,_,rfl,rfl,.inl ⟨by exact Om.k131 h1 h8,by exact Om.k130 h1 h8⟩,_,rfl,cell,n*n,(n:Int),?_,by exact Om.b1 ‹_› rfl,by exact Om.c3 ‹_›,by exact Om.k129 h1 h8,fun lt H1 ts hlt s1 ht1 htl htz=>?_⟩
   ·rw [<- hnn]
    rfl
   refine ⟨Nat.zero_le _,fun lr hlr=>?_⟩
   have s2:Same H1 (upd H1 lr (.lst [])):=Same.new hlr
   refine ⟨_,rfl,(n:Int),rfl,by exact Om.c2,by exact Om.c1 ‹_› rfl,?_⟩
   rw [Int.toNat_natCast]
   refine ZU (lo:=0) (n:=n) (ZeX cell n lt H1 lr)
    ⟨none,[],rfl,s2,⟨[],Zd,.nil⟩,⟨Nat.zero_le _,(fun r h=>by cases h),fun c _=>List.nodup_nil⟩,rfl⟩ ?_ ?_
   ·rintro i σ H2 hi ⟨kk,R,rfl,sH2,hL,ok,hRl⟩
    rw [Int.zero_add]
    obtain ⟨ps,hps,hPs⟩:=id hL
    have hpl:(ps.map V.ref).length=R.length:=by rw [List.length_map,hPs.length]
    obtain ⟨us,hus,hul⟩:=ZgW (ts:=ts) htl hi
    refine ⟨_,rfl,.inl ⟨rfl,_,SqL.of hps⟩,_,rfl,Nat.zero_le _,fun l5 hl5=>?_⟩
    have s5:Same H2 (upd H2 l5 (.lst [])):=Same.new hl5
    refine ⟨_,rfl,_,rfl,_,rfl,_,rfl,_,_,rfl,rfl,.inr ⟨by exact Om.k128 h1 h8 hul,by exact Om.k127 h1 h8 hul⟩,_,rfl,_,rfl,_,_,rfl,rfl,_,rfl,_,_,rfl,rfl,.inr ⟨by exact Om.k128 h1 h8 hul,by exact Om.k127 h1 h8 hul⟩,_,rfl,lt,_,rfl,SqL.of (s5 _ _ (sH2 _ _ ht1)),fun l6 hl6=>?_⟩
    rw [hus]
    have s6:Same (upd H2 l5 (.lst [])) (upd (upd H2 l5 (.lst [])) l6 (.lst (us.map V.int))):=Same.new hl6
    have s26:=s5.trans s6
    refine ⟨lr,l5,l6,n,R,[],us,rfl,hL.same s26,fun o ho=>(ok.row o ho).1,by exact Om.b5 ‹_› ‹_› ‹_› rfl,s6 _ _ Zd,PRow.nil n R,h8,Zd,hul,by simp; exact Om.f3 ‹_›,fun p H7 r s7 hp o _=>?_,fun H7 s7 hno=>?_⟩
    ·have hR7:=hL.same (s26.trans s7)
     obtain ⟨ps7,hps7,hPs7⟩:=hR7
     have e7:ps7.map V.ref=ps.map V.ref:=by
      have:=(s26.trans s7) _ _ hps
      rw [hps7] at this
      injection this with this
      injection this
     refine ⟨lr,_,_,rfl,rfl,hps7,by rw [e7,hpl]; exact ZD (by exact Om.b5 ‹_› ‹_› ‹_› rfl),some (.int (i:Int)),R++[r],rfl,fun b u e=>?_,?_,o.more ok (by exact Om.x1 ‹_› ‹_›),by rw [List.length_append,hRl]; rfl⟩
     ·rw [Zh (Zm e hlr)]
      exact s7 _ _ (s26 _ _ (sH2 _ _ e))
     ·refine LLs.push hps7 hPs7 (fun x hx=>?_) ?_ hp
      ·have:=(ok.row x hx).1
       exact fun z=>by rw [z] at this; simp at this; exact Om.k126 h1 h8 hul this
      ·have:=o.len
       exact fun z=>by rw [z] at this; simp at this; exact Om.k126 h1 h8 hul this
    ·obtain ⟨r,hr'⟩:=Ze8 ok (by exact Om.x1 ‹_› ‹_›)
     exact (hno r hr' List.nil_prefix).elim
   ·rintro σ H2 ⟨kk,R,rfl,sH2,hL,ok,hRl⟩
    obtain ⟨ps,hps,hPs⟩:=id hL
    have hpl:(ps.map V.ref).length=R.length:=by rw [List.length_map,hPs.length]
    refine ⟨_,rfl,lr,rfl,⟨_,SqL.of hps⟩,fun lk hlk=>JP (Jz (xs:=ps.map V.ref)) (ZeW H2 R lk)
     ⟨none,[],rfl,rfl,Same.new hlk,Zd,.nil⟩ (fun i ys σ H' zz0=> by obtain ⟨v,qs,_,_,sm,hl,_⟩ := zz0; exact ⟨SqL.of (sm _ _ hps),hl⟩) ?_ ?_⟩
    ·rintro j x ys σ H7 hj ⟨v,qs,rfl,rfl,sm7,hl7,hP7⟩
     rw [List.getElem?_map] at hj
     cases hpj:ps[j]? with
     | none=>rw [hpj] at hj; cases hj
     | some p =>
      rw [hpj] at hj
      cases hj
      obtain ⟨r,hrj,hp⟩:=Paired.getL hPs hpj
      refine ⟨_,rfl,p,r.map V.int,rfl,.inl ⟨SqL.of (sm7 _ _ hp),fun tp htp=>?_⟩⟩
      have sm8:Same H7 (upd H7 tp (.tup (r.map V.int))):=Same.new htp
      have hl9:=sm8 _ _ hl7
      have hjl:j<R.length:=(List.getElem?_eq_some_iff.mp hrj).1
      have hql:qs.length=j:=by rw [hP7.length,List.length_take,List.length_map]; exact Om.m1 ‹_›
      refine ⟨hl9,by rw [List.length_map,hql]; exact ZD (by exact Om.b6 ‹_› ‹_› ‹_› rfl),_,qs++[tp],rfl,by rw [List.map_append]; rfl,fun b o e=>?_,Zd,?_⟩
      ·rw [Zh (Zm e hlk)]
       exact sm8 _ _ (sm7 _ _ e)
      ·have up:∀ b row,(upd H7 tp (.tup (r.map V.int))) b=some (.tup row)->(upd (upd H7 tp (.tup (r.map V.int))) lk (.lst (qs.map V.ref++[.ref tp]))) b=some (.tup row):=fun b row e=>by
        rw [Zh (Yi e hl9 (by intro z; cases z))]
        exact e
       have et:(R.map fun r=>r.map V.int).take (j+1)=(R.map fun r=>r.map V.int).take j++[r.map V.int]:=by rw [List.take_add_one,List.getElem?_map,hrj]; rfl
       rw [et]
       exact Paired.snoc (Paired.mapP hP7 fun q row e=>up q row (sm8 _ _ e)) (up tp _ Zd)
    ·rintro ys σ H7 ⟨v,qs,rfl,rfl,sm7,hl7,hP7⟩
     rw [hpl,List.take_of_length_le (by rw [List.length_map]; exact Nat.le_refl _)] at hP7
     refine ⟨lk,_,rfl,.inl ⟨SqL.of hl7,fun tk htk=>?_⟩⟩
     have sm8:Same H7 (upd H7 tk (.tup (qs.map V.ref))):=Same.new htk
     exact q tk _ R (s1.trans (sH2.trans (sm7.trans sm8))) ⟨qs,Zd,Paired.mapP hP7 fun _ _ z=>sm8 _ _ z⟩ ok hRl
end
end My
namespace My
open PySem L2
inductive Zgg (K:PySem.W.Frag) (vs:List V) (H:Hp) (Q:VK):Prop where
 | mk (a:Addr) (n:Nat) (B:List (List V)) (r c:Nat) (_:vs=[.ref a,.int r,.int c]) (_:Grid K H a B) (_:Sq n B) (_:n<=6) (_:r<n) (_:c<n) (_:∀ l H',H l=none->Same H H'->H' l=some (.lst (Zbv n B r c))->Q (.ref l) H'):Zgg K vs H Q
noncomputable def JZ (K:PySem.W.Frag):Sp:=fun vs H Q _=>Zgg K vs H Q
section
variable {P:Program} {w:World} {K:PySem.W.Frag} {mg:Str->Option Value} {base:Heap}
theorem scRoom:Zt ["_law_begun_here","_law_row","_law_column","_law_ahead"] ["_law_begun_here","_law_row","_law_column"] (Zf JR):=⟨rfl,rfl,rfl,by decide +kernel,rfl,by decide +kernel,by decide +kernel⟩
theorem ZaP {f:Addr} {fd:FuncData} (F:Fun K "_law_room" "_law_room" JR f fd) (T:Blt mg):FnOk P w K mg base CX0 1 f fd ["_law_begun_here","_law_row","_law_column"] (JZ K):=by
 refine F.ok scRoom (fun vs H Q E h=>?_) (fun cdv A outer s H vs Q E hr h=>?_)
 ·obtain ⟨a,n,B,r,c,rfl,_⟩:=h
  rfl
 ·obtain ⟨a,n,B,r,c,rfl,G,S,hn,hrn,hcn,k⟩:=h
  refine ⟨_,Ze (Zq (i:=3) scRoom.nd rfl (Or.inr rfl) (Zl Zb5 (JB Za1 rfl T.list Zf9 (Za (Zz ZI (pv 0) (pv 1) (fun _ _=>rfl)) Zc))
    (Y7 ["_law_one","_law_column"] [none,some 2] rfl rfl (Zaq K (pv 0)) (fun _ _ _ _ _=>Jo 0) (fun _ _ _ _ _=>YH) (fun _ _ _ _ _=>Zz (ZT K) (pv 0) (pv 1) (fun _ _=>rfl)))))
   (Zg (Zv (Y7 ["_law_thing","_law_ahead"] [none,some 3] rfl rfl (ZB rfl T.range (Za (Zw (Zu K) rfl T.len PySem.boot_len (Za (pv 0) Zc)) Zc)) (fun _ _ _ _ _=>Jo 0)
    (fun _ _ _ _ _=>YG (Zx (Yt K) (pv 0) (pv 1) rfl)) (fun _ _ _ _ _=>pv 0)))),?_⟩
  obtain ⟨ps,hx,hR⟩:=G
  have hxl:(ps.map V.ref).length=n:=by rw [List.length_map,hR.length,S.len]
  obtain ⟨pr,hpr,hrow⟩:=Paired.getR hR (S.rowAt hrn).1
  have hpr':(ps.map V.ref)[r]? = some (.ref pr):=by rw [List.getElem?_map,hpr]; rfl
  refine ⟨_,rfl,_,rfl,a,_,(r:Int),.ref pr,rfl,rfl,hx,ZF hpr',pr,Zj B r,rfl,.inr hrow,fun l1 hl1=>?_⟩
  have sm1:Same H (upd H l1 (.lst (Zj B r))):=Same.new hl1
  refine ⟨_,rfl,a,rfl,⟨_,sm1.seqT hx⟩,fun l2 hl2=>ZO (fun i=>some (at2 B i c)) (fun σ=>∃ v,σ=[v,some (.int (c:Int))]) Zan (by rw [hxl]; exact Zs (by exact Om.b1 ‹_› rfl)) hl2 (fun H' sm=>(sm1.trans sm).seqT hx) ⟨none,rfl⟩ ?_ ?_⟩
  ·rintro i x σ H' R hi ⟨v,rfl⟩ sm kk
   obtain ⟨p,rfl,hin,hp⟩:=JE hR S hi
   exact ⟨_,rfl,_,rfl,p,Zj B i,(c:Int),at2 B i c,rfl,rfl,(sm1.trans sm).seqT hp,ZF (S.entAt hin hcn).1,kk _ _ ⟨_,rfl⟩ (Same.refl _)⟩
  ·intro H2 sm2 hl2'
   rw [Z2,hxl] at hl2'
   have hn63:(n:Int)<2 ^ 62:=by exact Om.c1 ‹_› rfl
   refine ⟨l1,l2,Zj B r,_,rfl,rfl,sm2 _ _ Zd,hl2',?_,fun l3 hl3=>?_⟩
   ·rw [(S.rowAt hrn).2.1,List.length_map,List.length_range]
    exact Zs (by exact Om.k104 hn hxl)
   have smA:Same H (upd H2 l3 (.lst (Z4 n B r c))):=(sm1.trans sm2).upd_new ((sm1.trans sm2).free hl3)
   have sm3:Same H2 (upd H2 l3 (.lst (Z4 n B r c))):=Same.new hl3
   refine ⟨_,rfl,a,_,rfl,.inr (smA.seqT hx),n,by rw [hxl],by exact Om.c2,hn63,fun l4 hl4=>?_⟩
   rw [Int.toNat_natCast]
   refine ZO (fun t:Nat=>if (!inV (.int (t:Int)) (Z4 n B r c))=true then some (.int (t:Int)) else none) (fun σ=>∃ v,σ=[v,some (.ref l3)]) Yj (by rw [ZR]; exact Zs (by exact Om.b1 ‹_› rfl)) hl4 (fun H' sm=>trivial) ⟨none,rfl⟩ ?_ ?_
   ·rintro i x σ H' R hi ⟨v,rfl⟩ sm kk
    obtain ⟨hin,rfl⟩:=YT hi
    refine ⟨_,rfl,_,rfl,l3,Z4 n B r c,rfl,.inl (SqL.of (sm _ _ Zd)),rfl,ZbS S hrn hcn,_,rfl,?_⟩
    have kk':=kk [some (.int (i:Int)),some (.ref l3)] H' ⟨_,rfl⟩ (Same.refl _)
    refine YD (fun hc=>?_) (fun hc=>?_)
    ·have hc':(!inV (.int (i:Int)) (Z4 n B r c))=true:=hc
     rw [if_pos hc'] at kk'
     exact ⟨_,rfl,kk'⟩
    ·have hc':¬ (!inV (.int (i:Int)) (Z4 n B r c))=true:=hc
     rw [if_neg hc'] at kk'
     exact kk'
   ·intro H4 sm4 hl4'
    rw [ZR] at hl4'
    exact k l4 H4 (smA.free hl4) (smA.trans sm4) hl4'
end
inductive Zge (vs:List V) (H:Hp) (Q:VK):Prop where
 | mk (a:Addr) (n:Nat) (B:List (List V)) (r c:Nat) (v:V) (_:vs=[.ref a,.int (r:Int),.int (c:Int),v]) (_:GridT H a B) (_:Sq n B) (_:n<=6) (_:r<n) (_:c<n) (_:∀ p H',Same H H'->GridT H' p (Jr B r c v)->Q (.ref p) H'):Zge vs H Q
noncomputable def Jw:Sp:=fun vs H Q _=>Zge vs H Q
theorem Paired.take {α β:Type} {F:α->β->Prop}:∀ {l₁:List α} {l₂:List β} (k:Nat),Paired F l₁ l₂->Paired F (l₁.take k) (l₂.take k)
 | _,_,0,_=>.nil
 | _,_,_+1,.nil=>.nil
 | _,_,k+1,.cons r t=>.cons r (Paired.take k t)
theorem Paired.drop {α β:Type} {F:α->β->Prop}:∀ {l₁:List α} {l₂:List β} (k:Nat),Paired F l₁ l₂->Paired F (l₁.drop k) (l₂.drop k)
 | _,_,0,r=>r
 | _,_,_+1,.nil=>.nil
 | _,_,k+1,.cons _ t=>Paired.drop k t
section
variable {P:Program} {w:World} {K:PySem.W.Frag} {mg:Str->Option Value} {base:Heap}
theorem scPutL:Zt ["_law_begun_here","_law_row","_law_column","_law_thing","_law_line"] ["_law_begun_here","_law_row","_law_column","_law_thing"] (Zf JA):=⟨rfl,rfl,rfl,by decide +kernel,rfl,by decide +kernel,by decide +kernel⟩
theorem ZaE {f:Addr} {fd:FuncData} (F:Fun K "_law_put" "_law_put" JA f fd) (T:Blt mg):FnOk P w K mg base CX0 1 f fd ["_law_begun_here","_law_row","_law_column","_law_thing"] Jw:=by
 refine F.ok scPutL (fun vs H Q E h=>?_) (fun cdv A outer s H vs Q E hr h=>?_)
 ·obtain ⟨a,n,B,r,c,v,rfl,_⟩:=h
  rfl
 ·obtain ⟨a,n,B,r,c,v,rfl,⟨ps,ha,hP⟩,S,hn,hrn,hcn,k⟩:=h
  refine ⟨_,Ze (Zq (i:=4) scPutL.nd rfl (Or.inl rfl) (Zl (Jf K) (Zl (Jf K) (Yn J0 (Zz ZI (pv 0) (pv 1) (fun _ _=>rfl)) YU (Yy (pv 2))) (ZH (Za (pv 3) Zc)))
    (Yn J0 (Zz ZI (pv 0) (pv 1) (fun _ _=>rfl)) (Yy (Zl Yg (pv 2) Zi)) YU)))
   (Zg (Zv (Zl (Jf K) (Zl (Jf K) (Yn J0 (pv 0) YU (Yy (pv 1))) (ZH (Za (pv 4) Zc))) (Yn J0 (pv 0) (Yy (Zl Yg (pv 1) Zi)) YU)))),?_⟩
  have hxl:(ps.map V.ref).length=n:=by rw [List.length_map,hP.length,S.len]
  obtain ⟨pr,hpr,hrow⟩:=Paired.getR hP (S.rowAt hrn).1
  have hpr':(ps.map V.ref)[r]? = some (.ref pr):=by rw [List.getElem?_map,hpr]; rfl
  have hrl:=(S.rowAt hrn).2.1
  have hc1:((c:Int)+1)=((c+1:Nat):Int):=rfl
  have hr1:((r:Int)+1)=((r+1:Nat):Int):=rfl
  refine ⟨_,rfl,_,rfl,a,_,_,_,rfl,rfl,SqT.of ha,ZF hpr',_,rfl,_,rfl,pr,_,rfl,SqT.of hrow,(by rw [hrl]; exact Jg hcn),fun p1 hp1=>?_⟩
  rw [ZdM _ (by rw [hrl]; exact Om.d1 ‹_›)]
  have sm1:Same H (upd H p1 (.tup ((Zj B r).take c))):=Same.new hp1
  refine ⟨_,rfl,(show 1<=sizeLine from Zs (by decide)),fun p2 hp2=>?_⟩
  have sm2:Same (upd H p1 (.tup ((Zj B r).take c))) (upd (upd H p1 (.tup ((Zj B r).take c))) p2 (.tup [v])):=Same.new hp2
  refine ⟨p1,p2,_,_,rfl,rfl,sm2 _ _ Zd,Zd,?_,fun p3 H3 sm3 h3=>?_⟩
  ·rw [List.length_take,hrl]
   show min c n+1<=sizeLine
   exact Zs (by exact Om.k68 hn hrn hcn hxl hrl)
  have smA:Same H H3:=(sm1.trans sm2).trans sm3
  refine ⟨_,rfl,_,rfl,a,_,_,_,rfl,rfl,SqT.of (smA _ _ ha),ZF hpr',_,rfl,_,_,rfl,rfl,_,rfl,pr,_,rfl,SqT.of (smA _ _ hrow),(by rw [hc1,hrl]; exact YI hcn),fun p4 hp4=>?_⟩
  rw [hc1,ZaY _ (by rw [hrl]; exact Om.f1 ‹_›)]
  have sm4:Same H3 (upd H3 p4 (.tup ((Zj B r).drop (c+1)))):=Same.new hp4
  refine ⟨p3,p4,_,_,rfl,rfl,sm4 _ _ h3,Zd,?_,fun p5 H5 sm5 h5=>?_⟩
  ·rw [List.length_append,List.length_take,List.length_drop,hrl]
   show min c n+1+(n - (c+1))<=sizeLine
   exact Zs (by exact Om.k66 hn hcn hxl hrl)
  have h5':H5 p5=some (.tup (J3 (Zj B r) c v)):=by rw [h5,List.append_assoc]; rfl
  have smB:Same H H5:=(smA.trans sm4).trans sm5
  refine ⟨_,rfl,_,rfl,_,rfl,a,_,rfl,SqT.of (smB _ _ ha),(by rw [hxl]; exact Jg hrn),fun p6 hp6=>?_⟩
  rw [ZdM _ (by rw [hxl]; exact Om.d1 ‹_›)]
  have sm6:Same H5 (upd H5 p6 (.tup ((ps.map V.ref).take r))):=Same.new hp6
  refine ⟨_,rfl,(show 1<=sizeLine from Zs (by decide)),fun p7 hp7=>?_⟩
  have sm7:Same (upd H5 p6 (.tup ((ps.map V.ref).take r))) (upd (upd H5 p6 (.tup ((ps.map V.ref).take r))) p7 (.tup [.ref p5])):=Same.new hp7
  refine ⟨p6,p7,_,_,rfl,rfl,sm7 _ _ Zd,Zd,?_,fun p8 H8 sm8 h8=>?_⟩
  ·rw [List.length_take,hxl]
   show min r n+1<=sizeLine
   exact Zs (by exact Om.k67 hn hrn hcn hxl hrl)
  have smC:Same H5 H8:=(sm6.trans sm7).trans sm8
  refine ⟨_,rfl,_,rfl,_,_,rfl,rfl,_,rfl,a,_,rfl,SqT.of (smC _ _ (smB _ _ ha)),(by rw [hr1,hxl]; exact YI hrn),fun p9 hp9=>?_⟩
  rw [hr1,ZaY _ (by rw [hxl]; exact Om.f1 ‹_›)]
  have sm9:Same H8 (upd H8 p9 (.tup ((ps.map V.ref).drop (r+1)))):=Same.new hp9
  refine ⟨p8,p9,_,_,rfl,rfl,sm9 _ _ h8,Zd,?_,fun p10 H10 sm10 h10=>?_⟩
  ·rw [List.length_append,List.length_take,List.length_drop,hxl]
   show min r n+1+(n - (r+1))<=sizeLine
   exact Zs (by exact Om.k66 hn hrn hxl hrl)
  have smD:Same H5 H10:=(smC.trans sm9).trans sm10
  refine k p10 H10 (smB.trans smD) ⟨ps.take r++p5::ps.drop (r+1),?_,?_⟩
  ·rw [h10,List.map_append,List.map_cons,List.map_take,List.map_drop,List.append_assoc]
   rfl
  ·exact Paired.append (Paired.mapP (Paired.take r hP) fun _ _ q=>(smB.trans smD) _ _ q) (.cons (smD _ _ h5') (Paired.mapP (Paired.drop (r+1) hP) fun _ _ q=>(smB.trans smD) _ _ q))
end
end My
namespace My
open PySem L2
noncomputable def ZJ (n:Nat) (B:List (List V)) (r c:Nat):List Int:=(ZaB n).filter fun t=>!inV (.int t) (Z4 n B r c)
theorem Zbd (n:Nat) (B:List (List V)) (r c:Nat):Zbv n B r c=(ZJ n B r c).map V.int:=by
 unfold Zbv ZJ ZaB
 induction List.range n with
 | nil=>rfl
 | cons j l ih =>
  rw [List.filterMap_cons,List.map_cons,List.filter_cons]
  cases h:(!inV (.int ((j:Nat):Int)) (Z4 n B r c)) with
  | true=>rw [if_pos rfl,if_pos rfl,List.map_cons,ih]
  | false=>rw [if_neg Bool.false_ne_true,if_neg Bool.false_ne_true,ih]
theorem Zbb {n:Nat} {B:List (List V)} {r c:Nat} {t:Int} (h:t∈ZJ n B r c):inV (.int t) (Zbv n B r c)=true:=by
 obtain ⟨h1,h2⟩:=List.mem_filter.mp h
 obtain ⟨h3,h4⟩:=mem_rngI.mp h1
 rw [Zek]
 exact ⟨h3,h4,by simpa using h2⟩
noncomputable def Zak (n:Nat):List (List V):=List.replicate n (List.replicate n .non)
theorem ZgT (n:Nat):Sq n (Zak n):=by
 refine ⟨List.length_replicate,fun row h=>?_,fun row h v hv=>?_⟩
 ·rw [(List.mem_replicate.mp h).2]
  exact List.length_replicate
 ·rw [(List.mem_replicate.mp h).2] at hv
  exact .inl (List.mem_replicate.mp hv).2
theorem Zbh {n r c:Nat} (hr:r<n) (hc:c<n):at2 (Zak n) r c = .non:=by
 unfold at2 Zak
 rw [List.getElem?_replicate,if_pos hr]
 simp [List.getD_eq_getElem?_getD,List.getElem?_replicate,hc]
theorem Zfq (n:Nat):Lat n (Zak n) :=
 ⟨fun r c hr hc=>.inl (Zbh hr hc),fun r c c' hr hc _ _=>.inl (Zbh hr hc),fun r r' c hr _ hc _=>.inl (Zbh hr hc)⟩
noncomputable def Sub (n:Nat) (B' B:List (List V)):Prop:=∀ r c,r<n->c<n->at2 B' r c = .non\/at2 B' r c=at2 B r c
theorem Sub.lat {n:Nat} {B' B:List (List V)} (s:Sub n B' B) (L:Lat n B):Lat n B':=by
 refine ⟨fun r c hr hc=>?_,fun r c c' hr hc hc' ne=>?_,fun r r' c hr hr' hc ne=>?_⟩
 ·rcases s r c hr hc with e | e
  ·exact .inl e
  ·rw [e]
   exact L.ent r c hr hc
 ·rcases s r c hr hc with e | e
  ·exact .inl e
  ·rcases L.row r c c' hr hc hc' ne with z | z
   ·exact .inl (e.trans z)
   ·rcases s r c' hr hc' with e' | e'
    ·by_cases y:at2 B' r c = .non
     ·exact .inl y
     ·exact .inr (by rw [e']; exact y)
    ·exact .inr (by rw [e,e']; exact z)
 ·rcases s r c hr hc with e | e
  ·exact .inl e
  ·rcases L.col r r' c hr hr' hc ne with z | z
   ·exact .inl (e.trans z)
   ·rcases s r' c hr' hc with e' | e'
    ·by_cases y:at2 B' r c = .non
     ·exact .inl y
     ·exact .inr (by rw [e']; exact y)
    ·exact .inr (by rw [e,e']; exact z)
theorem ZfG {x:V}:∀ k:Nat,(List.replicate k [x]).flatten=List.replicate k x
 | 0=>rfl
 | k+1=>by rw [List.replicate_succ,List.flatten_cons,ZfG k]; rfl
theorem Zfp {H:Hp} {a p:Addr} {n:Nat} (h:H a=some (.tup (List.replicate n [V.ref p]).flatten)) (hp:H p=some (.tup (List.replicate n [V.non]).flatten)):GridT H a (Zak n):=by
 rw [ZfG] at h hp
 refine ⟨List.replicate n p,by rw [h,List.map_replicate],?_⟩
 unfold Zak
 generalize List.replicate n V.non=row at hp
 have go:∀ k:Nat,Paired (fun q row=>H q=some (.tup row)) (List.replicate k p) (List.replicate k row):=by
  intro k
  induction k with
  | zero=>exact .nil
  | succ k ih=>exact .cons hp ih
 exact go n
inductive Zcu (vs:List V) (H:Hp) (Q:VK):Prop where
 | mk (cell:Int) (n:Nat) (_:vs=[.int cell,.int (n:Int)]) (_:1<=n) (_:n<=6) (_:∀ (a:Addr) (H':Hp) (B:List (List V)),Same H H'->GridT H' a B->Sq n B->Lat n B->Q (.ref a) H'):Zcu vs H Q
noncomputable def ZcL:Sp:=fun vs H Q _=>Zcu vs H Q
inductive Zcs (vs:List V) (H:Hp) (Q:VK):Prop where
 | mk (a:Addr) (cell z:Int) (n:Nat) (B:List (List V)) (_:vs=[.ref a,.int cell,.int z]) (_:GridT H a B) (_:Sq n B) (_:1<=n) (_:n<=6) (_:0<z) (_:z<1073741824) (_:∀ (p:Addr) (H':Hp) (B':List (List V)),Same H H'->GridT H' p B'->Sq n B'->Sub n B' B->Q (.ref p) H'):Zcs vs H Q
noncomputable def Za6:Sp:=fun vs H Q _=>Zcs vs H Q
theorem JO {n i:Nat} (h:i<n*n):i / n<n/\i % n<n:=by
 have hn:0<n:=by
  rcases n with _ | n
  ·simp at h
  ·exact Om.k125 
 exact ⟨Nat.div_lt_of_lt_mul h,Nat.mod_lt _ hn⟩
section
variable {P:Program} {w:World} {K:PySem.W.Frag} {mg:Str->Option Value} {base:Heap}
theorem scEntered:Zt ["_law_cell","_law_size","_law_begun_here","_law_digits_here","_law_k","_law_some"] ["_law_cell","_law_size"] (Zf YZ):=⟨rfl,rfl,rfl,by decide +kernel,rfl,by decide +kernel,by decide +kernel⟩
inductive ZeV (cell:Int) (n:Nat) (ld:Addr) (H5:Hp) (i:Nat) (σ:St) (H':Hp):Prop where
 | mk (kk sm:Option V) (g:Addr) (B:List (List V)) (_:σ=[some (.int cell),some (.int (n:Int)),some (.ref g),some (.ref ld),kk,sm]) (_:Same H5 H') (_:GridT H' g B) (_:Sq n B) (_:Lat n B):ZeV cell n ld H5 i σ H'
theorem Zfc {f fD fR fP:Addr} {fd dD dR dP:FuncData} (F:Fun K "_law_entered" "_law_entered" YZ f fd) (T:Blt mg) (DD:Dfn K mg "_law_digits" YF ["_law_cell","_law_many","_law_most"] fD dD) (DR:Dfn K mg "_law_room" JR ["_law_begun_here","_law_row","_law_column"] fR dR) (DP:Dfn K mg "_law_put" JA ["_law_begun_here","_law_row","_law_column","_law_thing"] fP dP) :
  FnOk P w K mg base CX0 2 f fd ["_law_cell","_law_size"] ZcL:=by
 have GD:FnOk P w K mg base CX0 1 fD dD ["_law_cell","_law_many","_law_most"] ZaH:=Zba DD.F T
 have GR:FnOk P w K mg base CX0 1 fR dR ["_law_begun_here","_law_row","_law_column"] (JZ K):=ZaP DR.F T
 have GP:FnOk P w K mg base CX0 1 fP dP ["_law_begun_here","_law_row","_law_column","_law_thing"] Jw:=ZaE DP.F T
 refine F.ok scEntered (fun vs H Q E h=>?_) (fun cdv A outer s H vs Q E hr h=>?_)
 ·obtain ⟨_,_,rfl,_⟩:=h
  rfl
 ·obtain ⟨cell,n,rfl,h1,h6,q⟩:=h
  refine' ⟨_,Ze ?s0 (Ze ?s1 (Ze (Yf PassesOwn.never rfl ?i (ZG (i:=4) scEntered.nd rfl (Or.inl rfl)) (Ze ?b0 (Zg ?b1))) (Zg (Zv (pv 2))))),?rd⟩
  case s0=>exact Zq (i:=2) scEntered.nd rfl (Or.inl rfl) (Zl ZfK (ZH (Za (Zl ZfK (ZH (Za JL Zc)) (pv 1)) Zc)) (pv 1))
  case s1=>exact Zq (i:=3) scEntered.nd rfl (Or.inl rfl) (Zk GD hr rfl DD.m DD.F.kp DD.b .nil ZA (Za (pv 0) (Za (Zl Yo (pv 1) (pv 1)) (Za Zi Zc))))
  case i=>exact ZB rfl T.range (Za (Zl Yo (pv 1) (pv 1)) Zc)
  case b0=>exact Zq (i:=5) scEntered.nd rfl (Or.inl rfl) (Zk GR hr rfl DR.m DR.F.kp DR.b .nil ZA (Za (pv 2) (Za (Zl ZS (pv 4) (pv 1)) (Za (Zl ZM (pv 4) (pv 1)) Zc))))
  case b1=>exact ZZ (Zx ZhI (Zz YK (pv 3) (pv 4) (fun _ _=>rfl)) (Zw (Zu K) rfl T.len PySem.boot_len (Za (pv 5) Zc)) (ZN _)) (Zg (Zq (i:=2) scEntered.nd rfl (Or.inl rfl) (Zk GP hr rfl DP.m DP.F.kp DP.b .nil ZA (Za (pv 2) (Za (Zl ZS (pv 4) (pv 1)) (Za (Zl ZM (pv 4) (pv 1)) (Za (Zz YK (pv 5) (Zz YK (pv 3) (pv 4) (fun _ _=>rfl)) (fun _ _=>rfl)) Zc))))))) ZE
  case rd =>
   have hnn:(n:Int)*(n:Int)=((n*n:Nat):Int):=by rw [Int.natCast_mul]
   have hnn36:n*n<=36:=Nat.mul_le_mul h6 h6
   refine ⟨(show 1<=sizeLine from Zs (by decide)),fun p1 hp1=>⟨_,rfl,p1,n,[.non],rfl,rfl,Zd,by simp,by exact Om.k124 h1 h6,Zs (by simp; exact Om.b1 ‹_› rfl),fun p2 H2 s2 h2=>⟨(show 1<=sizeLine from Zs (by decide)),fun p3 hp3=>⟨_,rfl,p3,n,[.ref p2],rfl,rfl,Zd,by simp,by exact Om.k124 h1 h6,Zs (by simp; exact Om.b1 ‹_› rfl),fun p4 H4 s4 h4=>?_⟩⟩⟩⟩
   have s3:Same H2 (upd H2 p3 (.tup [.ref p2])):=Same.new hp3
   have sH4:Same H H4:=((Same.new hp1).trans s2).trans (s3.trans s4)
   have G0:GridT H4 p4 (Zak n):=Zfp h4 ((s3.trans s4) _ _ h2)
   refine ⟨_,rfl,_,rfl,_,rfl,_,_,rfl,rfl,.inl ⟨by exact Om.k123 h1 h6,by exact Om.k122 h1 h6⟩,cell,n*n,8,?_,by exact Om.b1 ‹_› rfl,by decide,by decide,fun ld H5 ds hld s5 hd5 hdl hdz=>?_⟩
   ·rw [<- hnn]
    rfl
   refine ⟨_,rfl,_,rfl,_,_,rfl,rfl,.inl ⟨by exact Om.k123 h1 h6,by exact Om.k122 h1 h6⟩,_,rfl,by omega,by omega,?_⟩
   rw [hnn,Int.toNat_natCast]
   refine ZU (lo:=0) (n:=n*n) (ZeV cell n ld H5)
    ⟨none,none,p4,Zak n,rfl,Same.refl _,G0.same s5,ZgT n,Zfq n⟩ ?_ ?_
   ·rintro i σ H6 hi ⟨kk,sm,g,B,rfl,s6,G,S,L⟩
    rw [Int.zero_add]
    obtain ⟨hr',hc'⟩:=JO hi
    have hcn:(0:Int)<(n:Int):=by exact Om.c3 ‹_›
    refine ⟨_,rfl,_,rfl,_,rfl,_,_,rfl,rfl,⟨hcn,by exact Om.k121 h1 h6⟩,_,rfl,_,rfl,_,_,rfl,rfl,hcn,g,n,B,i / n,i % n,rfl,G.grid,S,h6,hr',hc',fun l H7 hl s7 hl7=>?_⟩
    rw [Zbd] at hl7
    have hd7:=(s6.trans s7) _ _ hd5
    have hdi:(ds.map V.int)[i]? = some (.int (ds.getD i 0)):=by
     rw [List.getElem?_map,List.getElem?_eq_getElem (by exact Om.a1 ‹_› ‹_›)]
     simp [List.getD_eq_getElem?_getD,List.getElem?_eq_getElem (show i<ds.length by exact Om.a1 ‹_› ‹_›)]
    have hd0:0<=ds.getD i 0:=by
     have:ds.getD i 0=ds[i]'(by exact Om.a1 ‹_› ‹_›):=by simp [List.getD_eq_getElem?_getD,List.getElem?_eq_getElem (show i<ds.length by exact Om.a1 ‹_› ‹_›)]
     rw [this]
     exact (hdz _ (List.getElem_mem _)).1
    generalize ds.getD i 0=d at hdi hd0
    refine ⟨_,rfl,_,rfl,ld,_,_,.int d,rfl,rfl,SqL.of hd7,ZF hdi,_,rfl,l,_,rfl,.inl (SqL.of hl7),_,_,rfl,rfl,_,rfl,?_⟩
    rw [List.length_map]
    refine YD (fun hc=>?_) (fun _=>⟨_,_,g,B,rfl,s6.trans s7,G.same s7,S,L⟩)
    have hdl':d<((ZJ n B (i / n) (i % n)).length:Int):=of_decide_eq_true hc
    obtain ⟨m,rfl⟩:∃ m:Nat,d=(m:Int):=⟨d.toNat,by exact Om.z1 ‹_›⟩
    have hml:m<(ZJ n B (i / n) (i % n)).length:=by exact Om.k65 hdl'
    have hx:((ZJ n B (i / n) (i % n)).map V.int)[m]? = some (.int (ZJ n B (i / n) (i % n))[m]):=by rw [List.getElem?_map,List.getElem?_eq_getElem hml]; rfl
    have hxm:(ZJ n B (i / n) (i % n))[m]∈ZJ n B (i / n) (i % n):=List.getElem_mem hml
    generalize (ZJ n B (i / n) (i % n))[m]=x at hx hxm
    refine ⟨_,rfl,_,rfl,_,rfl,_,_,rfl,rfl,⟨hcn,by exact Om.k121 h1 h6⟩,_,rfl,_,rfl,_,_,rfl,rfl,hcn,_,rfl,_,rfl,_,rfl,ld,_,_,.int (m:Int),rfl,rfl,SqL.of hd7,ZF hdi,l,_,_,.int x,rfl,rfl,SqL.of hl7,ZF hx,g,n,B,i / n,i % n,.int x,rfl,G.same s7,S,h6,hr',hc',fun p H8 s8 g8=>?_⟩
    exact ⟨_,_,p,_,rfl,s6.trans (s7.trans s8),g8,Zap S hr' hc' (.inr ⟨x,rfl⟩),ZaI S L hr' hc' (Zbb hxm)⟩
   ·rintro σ H6 ⟨kk,sm,g,B,rfl,s6,G,S,L⟩
    exact ⟨_,rfl,q g H6 B (sH4.trans (s5.trans s6)) G S L⟩
theorem scThinned:Zt ["_law_square_here","_law_cell","_law_most","_law_size","_law_digits_here","_law_found","_law_k"] ["_law_square_here","_law_cell","_law_most"] (Zf YX):=⟨rfl,rfl,rfl,by decide +kernel,rfl,by decide +kernel,by decide +kernel⟩
inductive ZeU (a:Addr) (cell:Int) (z:Int) (n:Nat) (B:List (List V)) (ld:Addr) (H5:Hp) (i:Nat) (σ:St) (H':Hp):Prop where
 | mk (kk:Option V) (g:Addr) (B':List (List V)) (_:σ=[some (.ref a),some (.int cell),some (.int z),some (.int (n:Int)),some (.ref ld),some (.ref g),kk]) (_:Same H5 H') (_:GridT H' g B') (_:Sq n B') (_:Sub n B' B):ZeU a cell z n B ld H5 i σ H'
theorem Zb6 {f fD fP:Addr} {fd dD dP:FuncData} (F:Fun K "_law_thinned" "_law_thinned" YX f fd) (T:Blt mg) (DD:Dfn K mg "_law_digits" YF ["_law_cell","_law_many","_law_most"] fD dD) (DP:Dfn K mg "_law_put" JA ["_law_begun_here","_law_row","_law_column","_law_thing"] fP dP) :
  FnOk P w K mg base CX0 2 f fd ["_law_square_here","_law_cell","_law_most"] Za6:=by
 have GD:FnOk P w K mg base CX0 1 fD dD ["_law_cell","_law_many","_law_most"] ZaH:=Zba DD.F T
 have GP:FnOk P w K mg base CX0 1 fP dP ["_law_begun_here","_law_row","_law_column","_law_thing"] Jw:=ZaE DP.F T
 refine F.ok scThinned (fun vs H Q E h=>?_) (fun cdv A outer s H vs Q E hr h=>?_)
 ·obtain ⟨_,_,_,_,_,rfl,_⟩:=h
  rfl
 ·obtain ⟨a,cell,z,n,B,rfl,G,S,h1,h6,hz,hz2,q⟩:=h
  refine' ⟨_,Ze ?s0 (Ze ?s1 (Ze (Zq (i:=5) scThinned.nd rfl (Or.inl rfl) (pv 0)) (Ze (Yf PassesOwn.never rfl ?i (ZG (i:=6) scThinned.nd rfl (Or.inl rfl)) (Zg ?b1)) (Zg (Zv (pv 5)))))),?rd⟩
  case s0=>exact Zq (i:=3) scThinned.nd rfl (Or.inl rfl) (Zw (Zu K) rfl T.len PySem.boot_len (Za (pv 0) Zc))
  case s1=>exact Zq (i:=4) scThinned.nd rfl (Or.inl rfl) (Zk GD hr rfl DD.m DD.F.kp DD.b .nil ZA (Za (pv 1) (Za (Zl Yo (pv 3) (pv 3)) (Za (pv 2) Zc))))
  case i=>exact ZB rfl T.range (Za (Zl Yo (pv 3) (pv 3)) Zc)
  case b1=>exact ZZ (Zx Zb4 (Zz YK (pv 4) (pv 6) (fun _ _=>rfl)) Zi (ZN _)) (Zg (Zq (i:=5) scThinned.nd rfl (Or.inl rfl) (Zk GP hr rfl DP.m DP.F.kp DP.b .nil ZA (Za (pv 5) (Za (Zl ZS (pv 6) (pv 3)) (Za (Zl ZM (pv 6) (pv 3)) (Za JL Zc))))))) ZE
  case rd =>
   have hnn:(n:Int)*(n:Int)=((n*n:Nat):Int):=by rw [Int.natCast_mul]
   have hnn36:n*n<=36:=Nat.mul_le_mul h6 h6
   obtain ⟨ps,hps,hPs⟩:=id G
   have hpl:(ps.map V.ref).length=n:=by rw [List.length_map,hPs.length,S.len]
   refine ⟨_,rfl,a,_,rfl,.inr (SqT.of hps),?_⟩
   rw [hpl]
   refine ⟨_,rfl,_,rfl,_,rfl,_,_,rfl,rfl,.inl ⟨by exact Om.k3 h1 h6 hpl,by exact Om.k2 h1 h6 hpl⟩,_,rfl,cell,n*n,z,?_,by exact Om.b1 ‹_› rfl,hz,hz2,fun ld H5 ds hld s5 hd5 hdl hdz=>?_⟩
   ·rw [<- hnn]
    rfl
   refine ⟨_,rfl,_,rfl,_,rfl,_,_,rfl,rfl,.inl ⟨by exact Om.k3 h1 h6 hpl,by exact Om.k2 h1 h6 hpl⟩,_,rfl,by omega,by omega,?_⟩
   rw [hnn,Int.toNat_natCast]
   refine ZU (lo:=0) (n:=n*n) (ZeU a cell z n B ld H5)
    ⟨none,a,B,rfl,Same.refl _,G.same s5,S,fun r c _ _=>.inr rfl⟩ ?_ ?_
   ·rintro i σ H6 hi ⟨kk,g,B',rfl,s6,G6,S6,sub⟩
    rw [Int.zero_add]
    obtain ⟨hr',hc'⟩:=JO hi
    have hcn:(0:Int)<(n:Int):=by exact Om.c3 ‹_›
    have hd6:=s6 _ _ hd5
    have hdi:(ds.map V.int)[i]? = some (.int (ds.getD i 0)):=by
     rw [List.getElem?_map,List.getElem?_eq_getElem (by exact Om.a1 ‹_› ‹_›)]
     simp [List.getD_eq_getElem?_getD,List.getElem?_eq_getElem (show i<ds.length by exact Om.a1 ‹_› ‹_›)]
    refine ⟨_,rfl,_,rfl,ld,_,_,_,rfl,rfl,SqL.of hd6,ZF hdi,_,_,rfl,rfl,_,rfl,YD (fun _=>?_) (fun _=>⟨_,g,B',rfl,s6,G6,S6,sub⟩)⟩
    refine ⟨_,rfl,_,rfl,_,rfl,_,_,rfl,rfl,⟨hcn,by exact Om.k4 h1 h6 hpl⟩,_,rfl,_,rfl,_,_,rfl,rfl,hcn,g,n,B',i / n,i % n,.non,rfl,G6,S6,h6,hr',hc',fun p H8 s8 g8=>?_⟩
    refine ⟨_,p,_,rfl,s6.trans s8,g8,Zap S6 hr' hc' (.inl rfl),fun r c hr2 hc2=>?_⟩
    rw [Yk S6 hr' hc']
    split
    ·exact .inl rfl
    ·exact sub r c hr2 hc2
   ·rintro σ H6 ⟨kk,g,B',rfl,s6,G6,S6,sub⟩
    exact ⟨_,rfl,q g H6 B' (s5.trans s6) G6 S6 sub⟩
end
end My
namespace My
open PySem L2
noncomputable def Zah (R:List (List Int)):List (List V):=R.map fun r=>r.map V.int
theorem ZfU {n:Nat} {R:List (List Int)} (ok:OkRows n R) (hl:R.length=n):Sq n (Zah R):=by
 refine ⟨by unfold Zah; rw [List.length_map,hl],fun row h=>?_,fun row h v hv=>?_⟩
 ·obtain ⟨r,hr,rfl⟩:=List.mem_map.mp h
  rw [List.length_map]
  exact (ok.row r hr).1
 ·obtain ⟨r,hr,rfl⟩:=List.mem_map.mp h
  obtain ⟨x,_,rfl⟩:=List.mem_map.mp hv
  exact .inr ⟨x,rfl⟩
theorem Zar {n:Nat} {R:List (List Int)} (ok:OkRows n R) (hl:R.length=n) {r c:Nat} (hr:r<n) (hc:c<n):∃ (h1:r<R.length) (h2:c<(R[r]'h1).length),at2 (Zah R) r c = .int ((R[r]'h1)[c]'h2):=by
 have h1:r<R.length:=by exact Om.a1 ‹_› ‹_›
 have h2:c<(R[r]'h1).length:=by rw [(ok.row _ (List.getElem_mem h1)).1]; exact hc
 refine ⟨h1,h2,?_⟩
 unfold at2 Zah
 rw [List.getElem?_map,List.getElem?_eq_getElem h1]
 simp [List.getD_eq_getElem?_getD,List.getElem?_eq_getElem h2]
theorem Zd9 {l:List Int} (h:l.Nodup) {i j:Nat} (hi:i<l.length) (hj:j<l.length) (ne:i≠j):l[i]≠l[j]:=by
 have p:=List.pairwise_iff_getElem.mp (List.nodup_iff_pairwise_ne.mp h)
 rcases Nat.lt_or_gt_of_ne ne with z | z
 ·exact p i j hi hj z
 ·exact (p j i hj hi z).symm
theorem Zel {n:Nat} {R:List (List Int)} (ok:OkRows n R) (hl:R.length=n):Lat n (Zah R):=by
 refine ⟨fun r c hr hc=>?_,fun r c c' hr hc hc' ne=>?_,fun r r' c hr hr' hc ne=>?_⟩
 ·obtain ⟨h1,h2,e⟩:=Zar ok hl hr hc
  have:=(ok.row _ (List.getElem_mem h1)).2.2 _ (List.getElem_mem h2)
  exact .inr ⟨_,e,this.1,this.2⟩
 ·obtain ⟨h1,h2,e⟩:=Zar ok hl hr hc
  obtain ⟨h1',h2',e'⟩:=Zar ok hl hr hc'
  rw [e,e']
  refine .inr fun z=>?_
  injection z with z
  exact Zd9 (ok.row _ (List.getElem_mem h1)).2.1 h2 h2' ne z
 ·obtain ⟨h1,h2,e⟩:=Zar ok hl hr hc
  obtain ⟨h1',h2',e'⟩:=Zar ok hl hr' hc
  rw [e,e']
  refine .inr fun z=>?_
  injection z with z
  have nd:=ok.col c hc
  have k1:r<(Yl R c).length:=by unfold Yl; rw [List.length_map]; exact h1
  have k2:r'<(Yl R c).length:=by unfold Yl; rw [List.length_map]; exact h1'
  refine Zd9 nd k1 k2 ne ?_
  simp [Yl,List.getD_eq_getElem?_getD,List.getElem?_eq_getElem h2,List.getElem?_eq_getElem h2',z]
theorem ZgK {n:Nat} {B B':List (List V)} (L:Lat n B) (S':Sq n B') (s:Sub n B' B) {r c:Nat} (hr:r<n) (hc:c<n) (hf:at2 B r c ≠ .non) (he:at2 B' r c = .non):0<(ZJ n B' r c).length:=by
 rcases L.ent r c hr hc with z | ⟨t,ht,h0,h1⟩
 ·exact absurd z hf
 ·refine List.length_pos_of_mem (a:=t) (List.mem_filter.mpr ⟨mem_rngI.mpr ⟨h0,h1⟩,?_⟩)
  have:inV (.int t) (Z4 n B' r c)=false:=by
   cases e:inV (.int t) (Z4 n B' r c) with
   | false=>rfl
   | true =>
    obtain ⟨k,hk,h | h⟩:=(Zbf S' hr hc t).mp e
    ·have hkc:c≠k:=fun z=>by rw [<- z,he] at h; cases h
     rcases s r k hr hk with y | y
     ·rw [y] at h; cases h
     ·rcases L.row r c k hr hc hk hkc with z | z
      ·exact absurd z hf
      ·exact absurd (ht.trans (h.symm.trans y)) z
    ·have hkr:r≠k:=fun z=>by rw [<- z,he] at h; cases h
     rcases s k c hk hc with y | y
     ·rw [y] at h; cases h
     ·rcases L.col r k c hr hk hc hkr with z | z
      ·exact absurd z hf
      ·exact absurd (ht.trans (h.symm.trans y)) z
  rw [this]
  rfl
end My
namespace My
open PySem L2
theorem Zeo (qs:List Addr) (lo hi:Option Int):∃ rs:List Addr,Zal (qs.map V.ref) lo hi=rs.map V.ref/\∀ q∈rs,q∈qs:=by
 unfold Zal
 rw [<- List.map_drop,<- List.map_take]
 exact ⟨_,rfl,fun q h=>List.mem_of_mem_drop (List.mem_of_mem_take h)⟩
theorem Zjj (xs:List V):(Zal xs none (some 1)).length<=1:=by
 unfold Zal
 rw [List.length_take]
 have h:HT.sIx xs.length xs.length (some 1)=min 1 xs.length:=HT.sIx_nat _ _ 1
 rw [h]
 omega
noncomputable def YL (n:Nat) (B:List (List V)) (i:Nat):List Nat:=(List.range i).filter fun k=>decide (at2 B (k / n) (k % n) = .non)
theorem ZaX (n:Nat) (B:List (List V)) (i:Nat):YL n B (i+1)=YL n B i++(if decide (at2 B (i / n) (i % n) = .non)=true then [i] else []):=by
 unfold YL
 rw [List.range_succ,List.filter_append]
 congr 1
 cases h:decide (at2 B (i / n) (i % n) = .non) <;> simp [List.filter_cons,h]
inductive ZeB (K:PySem.W.Frag) (vs:List V) (H:Hp) (Q:VK):Prop where
 | mk (a:Addr) (ns:List Int) (start:Nat) (_:vs=[.ref a,.int (start:Int)]) (_:SqL K H a (ns.map V.int)) (_:∀ (g:Addr) (H':Hp) (n:Nat) (B:List (List V)),Same H H'->1<=n->n<=6->GridT H' g B->Sq n B->Lat n B->Q (.ref g) H'):ZeB K vs H Q
noncomputable def Zdp (K:PySem.W.Frag):Sp:=fun vs H Q _=>ZeB K vs H Q
section
variable {P:Program} {w:World} {K:PySem.W.Frag} {mg:Str->Option Value} {base:Heap}
structure GenD (K:PySem.W.Frag) (mg:Str->Option Value) (fC fD fO fS fR fP fE fT:Addr) (dC dD dO dS dR dP dE dT:FuncData):Prop where
 C:Dfn K mg "_law_cell_at" ZaK ["_law_script","_law_k"] fC dC
 D:Dfn K mg "_law_digits" YF ["_law_cell","_law_many","_law_most"] fD dD
 O:Dfn K mg "_law_row_on" JH ["_law_above","_law_row","_law_size","_law_turns"] fO dO
 S:Dfn K mg "_law_square" Jt ["_law_cell","_law_size"] fS dS
 R:Dfn K mg "_law_room" JR ["_law_begun_here","_law_row","_law_column"] fR dR
 P:Dfn K mg "_law_put" JA ["_law_begun_here","_law_row","_law_column","_law_thing"] fP dP
 E:Dfn K mg "_law_entered" YZ ["_law_cell","_law_size"] fE dE
 T:Dfn K mg "_law_thinned" YX ["_law_square_here","_law_cell","_law_most"] fT dT
variable {fC fD fO fS fR fP fE fT:Addr} {dC dD dO dS dR dP dE dT:FuncData}
theorem scBegun:Zt ["_law_script","_law_start","_law_head","_law_size","_law_square_here","_law_begun_here","_law_places","_law_row","_law_column","_law_some"] ["_law_script","_law_start"] (Zf Zaa):=⟨rfl,rfl,rfl,by decide +kernel,rfl,by decide +kernel,by decide +kernel⟩
inductive ZeT (n:Nat) (g:Addr) (H2:Hp) (B:List (List V)) (lp:Addr) (i:Nat) (ys:List V) (σ:St) (H3:Hp):Prop where
 | mk (v:Option V) (qs:List Addr) (_:σ=[v,some (.int (n:Int)),some (.ref g)]) (_:ys=qs.map V.ref) (_:Same H2 H3) (_:H3 lp=some (.lst ys)) (_:Paired (fun q (k:Nat)=>H3 q=some (.tup [.int ((k / n:Nat):Int),.int ((k % n:Nat):Int)])) qs (YL n B i)):ZeT n g H2 B lp i ys σ H3
inductive ZeS (a:Addr) (start:Nat) (z:Int) (n:Nat) (tq:Addr) (B:List (List V)) (lp:Addr) (H3:Hp) (l4:Addr) (rs:List Addr) (l5:Addr) (us:List Addr) (i:Nat) (σ:St) (H6:Hp):Prop where
 | mk (v7 v8 v9:Option V) (g':Addr) (B':List (List V)) (_:σ=[some (.ref a),some (.int (start:Int)),some (.int z),some (.int (n:Int)),some (.ref tq),some (.ref g'),some (.ref lp),v7,v8,v9]) (_:Same (upd (upd H3 l4 (.lst (rs.map V.ref))) l5 (.lst (us.map V.ref))) H6) (_:GridT H6 g' B') (_:Sq n B') (_:Lat n B') (_:(i=0->B'=B)):ZeS a start z n tq B lp H3 l4 rs l5 us i σ H6
theorem ZhP {f:Addr} {fd:FuncData} (F:Fun K "_law_begun" "_law_begun" Zaa f fd) (T:Blt mg) (Z:GenD K mg fC fD fO fS fR fP fE fT dC dD dO dS dR dP dE dT):FnOk P w K mg base CX0 11 f fd ["_law_script","_law_start"] (Zdp K):=by
 have GC:FnOk P w K mg base CX0 10 fC dC ["_law_script","_law_k"] (Ze4 K):=(ZfN Z.C.F T).mono (by decide)
 have GS:FnOk P w K mg base CX0 10 fS dS ["_law_cell","_law_size"] ZbT:=ZcR Z.S.F T Z.D Z.O
 have GR:FnOk P w K mg base CX0 10 fR dR ["_law_begun_here","_law_row","_law_column"] (JZ K):=(ZaP Z.R.F T).mono (by decide)
 have GP:FnOk P w K mg base CX0 10 fP dP ["_law_begun_here","_law_row","_law_column","_law_thing"] Jw:=(ZaE Z.P.F T).mono (by decide)
 have GE:FnOk P w K mg base CX0 10 fE dE ["_law_cell","_law_size"] ZcL:=(Zfc Z.E.F T Z.D Z.R Z.P).mono (by decide)
 have GT:FnOk P w K mg base CX0 10 fT dT ["_law_square_here","_law_cell","_law_most"] Za6:=(Zb6 Z.T.F T Z.D Z.P).mono (by decide)
 refine F.ok scBegun (fun vs H Q E h=>?_) (fun cdv A outer s H vs Q E hr h=>?_)
 ·obtain ⟨_,_,_,rfl,_⟩:=h
  rfl
 ·obtain ⟨a,ns,start,rfl,hS,q⟩:=h
  refine' ⟨_,Ze ?s0 (Ze ?s1 (Ze ?s2 (Ze ?s3 (Ze ?s4 (Ze ?s5 (Ze ?s6 (Ze (Yf PassesOwn.never rfl ?i ?g (Ze ?b0 (Zg ?b1))) (Zg (Zv (pv 5)))))))))),?rd⟩
  case s0=>exact Zq (i:=2) scBegun.nd rfl (Or.inl rfl) (Zk GC hr rfl Z.C.m Z.C.F.kp Z.C.b .nil ZA (Za (pv 0) (Za (pv 1) Zc)))
  case s1=>exact Zq (i:=3) scBegun.nd rfl (Or.inr rfl) (Zl Yg Zi (Zl ZM (pv 2) Zi))
  case s2=>exact ZZ (Zx JD (Zl ZM (Zl ZS (pv 2) Zi) Zi) Zi (ZN _)) (Zg (Zv (Zk GE hr rfl Z.E.m Z.E.F.kp Z.E.b .nil ZA (Za (Zk GC hr rfl Z.C.m Z.C.F.kp Z.C.b .nil ZA (Za (pv 0) (Za (Zl Yg (pv 1) Zi) Zc))) (Za (pv 3) Zc))))) ZE
  case s3=>exact Zq (i:=4) scBegun.nd rfl (Or.inl rfl) (Zk GS hr rfl Z.S.m Z.S.F.kp Z.S.b .nil ZA (Za (Zk GC hr rfl Z.C.m Z.C.F.kp Z.C.b .nil ZA (Za (pv 0) (Za (Zl Yg (pv 1) Zi) Zc))) (Za (pv 3) Zc)))
  case s4=>exact Zq (i:=5) scBegun.nd rfl (Or.inr rfl) (Zk GT hr rfl Z.T.m Z.T.F.kp Z.T.b .nil ZA (Za (pv 4) (Za (Zk GC hr rfl Z.C.m Z.C.F.kp Z.C.b .nil ZA (Za (pv 0) (Za (Zl Yg (pv 1) Zi) Zc))) (Za (Zl Yg Zi (Zl ZM (Zl ZS (pv 2) Zi) Zi)) Zc))))
  case s5=>exact ZZ (Zx JD (Zl ZM (Zl ZS (pv 2) Zi) Zi) Zi (ZN _)) (Zg (Zv (pv 5))) ZE
  case s6=>exact ZcP (i:=6) ["_law_k","_law_size","_law_begun_here"] [none,some 3,some 5] scBegun.nd rfl (Or.inl rfl) rfl rfl (ZB rfl T.range (Za (Zl Yo (pv 3) (pv 3)) Zc)) (fun _ _ _ _ _=>Jo 0) (fun _ _ _ _ _=>YG (Jm (Zaf (Zz (ZT K) (Zz (ZT K) (pv 2) (Zl ZS (pv 0) (pv 1)) (fun _ _=>rfl)) (Zl ZM (pv 0) (pv 1)) (fun _ _=>rfl))))) (fun _ _ _ _ _=>ZH (Za (Zl ZS (pv 0) (pv 1)) (Za (Zl ZM (pv 0) (pv 1)) Zc)))
  case i=>exact ZaN (Yn Zdr (Yn Zdr (pv 6) (Yy (Zl ZM (Zl ZS (pv 2) Zi) (Zl Yg (Zw (Zu K) rfl T.len PySem.boot_len (Za (pv 6) Zc)) Zi))) YU) YU (Yy Zi))
  case g=>exact ZhC rfl (Y2 (ZG (i:=7) scBegun.nd rfl (Or.inl rfl)) (Y2 (ZG (i:=8) scBegun.nd rfl (Or.inl rfl)) ZbH))
  case b0=>exact Zq (i:=9) scBegun.nd rfl (Or.inl rfl) (Zk GR hr rfl Z.R.m Z.R.F.kp Z.R.b .nil ZA (Za (pv 5) (Za (pv 7) (Za (pv 8) Zc))))
  case b1=>exact Zq (i:=5) scBegun.nd rfl (Or.inr rfl) (Zk GP hr rfl Z.P.m Z.P.F.kp Z.P.b .nil ZA (Za (pv 5) (Za (pv 7) (Za (pv 8) (Za (Zz YK (pv 9) (Zl ZM (Zl ZS (pv 2) Zi) (Zw (Zu K) rfl T.len PySem.boot_len (Za (pv 9) Zc))) (fun _ _=>rfl)) Zc)))))
  case rd =>
   refine ⟨_,rfl,_,rfl,a,ns,start,rfl,hS,fun z=>?_⟩
   refine ⟨_,rfl,_,_,rfl,rfl,(by show (0:Int)<6; decide),_,_,rfl,rfl,?_⟩
   obtain ⟨n,hz,h1,h6⟩:∃ n:Nat,1+z % 6=(n:Int)/\1<=n/\n<=6:=⟨(1+z % 6).toNat,by exact Om.k120 ,by exact Om.k119 ,by exact Om.k118 ⟩
   show ZaU 3 (V.int (1+z % 6)) _ _ _
   rw [hz]
   refine ⟨_,rfl,_,_,rfl,rfl,⟨by decide,by decide⟩,_,_,rfl,rfl,(by show (0:Int)<3; decide),rfl,_,rfl,YD (fun _=>?_) (fun _=>?_)⟩
   ·refine ⟨_,rfl,_,rfl,_,_,rfl,rfl,a,ns,start+1,rfl,hS,fun z1=>?_⟩
    exact ⟨_,rfl,z1,n,rfl,h1,h6,fun g H' B s1 G S L=>q g H' n B s1 h1 h6 G S L⟩
   have hcn:(0:Int)<(n:Int):=by exact Om.c3 ‹_›
   have hnn:(n:Int)*(n:Int)=((n*n:Nat):Int):=by rw [Int.natCast_mul]
   have hnn36:n*n<=36:=Nat.mul_le_mul h6 h6
   refine ⟨_,rfl,_,rfl,_,_,rfl,rfl,a,ns,start+1,rfl,hS,fun z1=>?_⟩
   refine ⟨_,rfl,z1,n,rfl,h1,by exact Om.b1 ‹_› rfl,fun tq H1 R s1 G1 ok hRl=>?_⟩
   refine ⟨_,rfl,_,rfl,_,rfl,_,_,rfl,rfl,a,ns,start+2,rfl,s1.seq hS,fun z2=>?_⟩
   refine ⟨_,rfl,_,_,rfl,rfl,⟨by decide,by decide⟩,_,_,rfl,rfl,(by show (0:Int)<3; decide),_,_,rfl,rfl,tq,z2,2+z / 18 % 3,n,Zah R,rfl,G1,ZfU ok hRl,h1,h6,by exact Om.k117 ,by exact Om.k116 ,fun g H2 B s2 G2 S2 sub=>?_⟩
   have L0:=Zel ok hRl
   have L2:=sub.lat L0
   have full:∀ r c,r<n->c<n->at2 (Zah R) r c ≠ .non:=fun r c hr hc=>by
    obtain ⟨_,_,e⟩:=Zar ok hRl hr hc
    rw [e]
    intro z
    cases z
   have s02:=s1.trans s2
   refine ⟨_,rfl,_,_,rfl,rfl,⟨by decide,by decide⟩,_,_,rfl,rfl,(by show (0:Int)<3; decide),rfl,_,rfl,YD (fun _=>?_) (fun _=>?_)⟩
   ·exact ⟨_,rfl,q g H2 n B s02 h1 h6 G2 S2 L2⟩
   refine ⟨_,rfl,_,rfl,_,_,rfl,rfl,.inl ⟨by exact Om.k115 hz hRl,by exact Om.k114 hz hRl⟩,_,rfl,by omega,by omega,fun lp hlp=>?_⟩
   rw [hnn,Int.toNat_natCast]
   refine JP (Yj (n:=n*n)) (ZeT n g H2 B lp)
    ⟨none,[],rfl,rfl,Same.new hlp,Zd,.nil⟩ (fun i ys σ H3 zz0=> by obtain ⟨_,_,_,_,_,h3,_⟩ := zz0; exact ⟨trivial,h3⟩) ?_ ?_
   ·rintro i x ys σ H3 hx ⟨v,qs,rfl,rfl,s3,h3,hE⟩
    obtain ⟨hi,rfl⟩:=YT hx
    obtain ⟨hr',hc'⟩:=JO hi
    obtain ⟨xs1,p1,g1,g2,g3,g4⟩:=Grid.ent ((G2.same s3).grid (K:=K)) S2 hr'
    have few:(qs.map V.ref).length<=36:=by
     rw [List.length_map,hE.length]
     unfold YL
     refine Nat.le_trans (List.length_filter_le _ _) ?_
     rw [List.length_range]
     exact Om.b2 ‹_› ‹_› rfl
    refine ⟨_,rfl,_,rfl,_,rfl,_,_,rfl,rfl,⟨hcn,by exact Om.k113 hz hRl⟩,g,xs1,_,_,rfl,rfl,g1,g2,_,rfl,_,rfl,_,_,rfl,rfl,hcn,p1,_,_,_,rfl,rfl,g3,g4 (i % n) hc',_,rfl,?_⟩
    have es:=ZaX n B i
    refine YD (fun hc=>?_) (fun hc=>?_)
    ·rw [if_pos hc] at es
     refine ⟨_,rfl,_,rfl,_,_,rfl,rfl,⟨hcn,by exact Om.k113 hz hRl⟩,_,rfl,_,rfl,_,_,rfl,rfl,hcn,(show 2<=sizeLine from Zs (by decide)),fun p hp=>?_⟩
     have s4:Same H3 (upd H3 p (.tup [.int ((i / n:Nat):Int),.int ((i % n:Nat):Int)])):=Same.new hp
     have h4:=s4 _ _ h3
     have up:∀ b row,(upd H3 p (.tup [.int ((i / n:Nat):Int),.int ((i % n:Nat):Int)])) b=some (.tup row)->(upd (upd H3 p (.tup [.int ((i / n:Nat):Int),.int ((i % n:Nat):Int)])) lp (.lst (qs.map V.ref++[.ref p]))) b=some (.tup row):=fun b row e=>by
      rw [Zh (Yi e h4 (by intro z; cases z))]
      exact e
     refine ⟨h4,ZD (by exact Om.b1 ‹_› rfl),_,qs++[p],rfl,by rw [List.map_append]; rfl,fun b u e=>?_,Zd,?_⟩
     ·rw [Zh (Zm e hlp)]
      exact s4 _ _ (s3 _ _ e)
     ·rw [es]
      exact Paired.snoc (Paired.mapP hE fun b k e=>up _ _ (s4 _ _ e)) (up _ _ Zd)
    ·rw [if_neg hc,List.append_nil] at es
     refine ⟨_,qs,rfl,rfl,s3,h3,?_⟩
     rw [es]
     exact hE
   rintro ys σ H3 ⟨v,qs,rfl,rfl,s3,h3,hE⟩
   rw [ZR] at hE
   refine ⟨_,rfl,_,rfl,_,_,rfl,rfl,⟨by decide,by decide⟩,_,rfl,lp,_,rfl,.inl (SqL.of h3),_,_,rfl,rfl,_,_,rfl,rfl,?_,_,rfl,lp,_,rfl,SqL.of h3,fun l4 hl4=>?_⟩
   ·show (0:Int)<((qs.map V.ref).length:Int)+1
    exact Om.k112 
   have s4:=Same.new (o:=HO.lst (Zal (qs.map V.ref) (some (z / 54 % (((qs.map V.ref).length:Int)+1))) none)) hl4
   obtain ⟨rs,hrs,hsub⟩:=Zeo qs (some (z / 54 % (((qs.map V.ref).length:Int)+1))) none
   have hmem:∀ p∈rs,∃ k,k<n*n/\at2 B (k / n) (k % n) = .non/\H3 p=some (.tup [.int ((k / n:Nat):Int),.int ((k % n:Nat):Int)]):=fun p hp=>by
    obtain ⟨i,hi,e⟩:=List.getElem_of_mem (hsub p hp)
    have hqi:qs[i]? = some p:=by rw [<- e]; exact List.getElem?_eq_getElem hi
    obtain ⟨k,hk,h⟩:=Paired.getL hE hqi
    obtain ⟨hk1,hk2⟩:=List.mem_filter.mp (List.mem_of_getElem? hk)
    exact ⟨k,List.mem_range.mp hk1,of_decide_eq_true hk2,h⟩
   refine ⟨1,rfl,l4,_,rfl,SqL.of Zd,fun l5 hl5=>?_⟩
   rw [hrs] at hl5 ⊢
   obtain ⟨us,hus,husub⟩:=Zeo rs none (some 1)
   have hone:us.length<=1:=by
    have:=Zjj (rs.map V.ref)
    rw [hus,List.length_map] at this
    exact this
   rw [hrs] at s4
   rw [hus]
   have s5:Same (upd H3 l4 (.lst (rs.map V.ref))) (upd (upd H3 l4 (.lst (rs.map V.ref))) l5 (.lst (us.map V.ref))):=Same.new hl5
   have s35:=s4.trans s5
   refine ⟨l5,rfl,⟨_,SqL.of Zd⟩,Zai (xs:=us.map V.ref) (ZeS a start z n tq B lp H3 l4 rs l5 us)
    ⟨none,none,none,g,B,rfl,Same.refl _,G2.same (s3.trans s35),S2,L2,fun _=>rfl⟩ (fun i σ H6 _ zz0=> by obtain ⟨_,_,_,_,_,_,s6,_,_,_,_⟩ := zz0; exact SqL.of (s6 _ _ Zd)) ?_ ?_⟩
   ·rintro i x σ H6 hx ⟨v7,v8,v9,g',B',rfl,s6,G6,S6,L6,h0⟩
    rw [List.getElem?_map] at hx
    cases hui:us[i]? with
    | none=>rw [hui] at hx; cases hx
    | some p =>
     rw [hui] at hx
     cases hx
     have hi0:i=0:=by
      have:=(List.getElem?_eq_some_iff.mp hui).1
      omega
     have eB:=h0 hi0
     subst eB
     obtain ⟨k,hk,hkn,hp3⟩:=hmem p (husub p (List.mem_of_getElem? hui))
     obtain ⟨hr',hc'⟩:=JO hk
     refine ⟨p,_,rfl,SqT.of (s6 _ _ (s35 _ _ hp3)),rfl,_,_,rfl,_,_,rfl,rfl,?_⟩
     refine ⟨_,rfl,_,rfl,_,rfl,g',n,B',k / n,k % n,rfl,G6.grid,S6,h6,hr',hc',fun l H7 hl s7 hl7=>?_⟩
     rw [Zbd] at hl7
     have hpos:=ZgK L0 S6 sub hr' hc' (full _ _ hr' hc') hkn
     have hp1:(0:Int)<((ZJ n B' (k / n) (k % n)).length:Int):=by exact Om.k11 hpos
     have hlm:((ZJ n B' (k / n) (k % n)).map V.int).length=(ZJ n B' (k / n) (k % n)).length:=List.length_map _
     obtain ⟨m,hm,hml⟩:∃ m:Nat,z / 54 % ((ZJ n B' (k / n) (k % n)).length:Int)=(m:Int)/\m<(ZJ n B' (k / n) (k % n)).length:=by
      have e1:=Int.emod_nonneg (z / 54) (show ((ZJ n B' (k / n) (k % n)).length:Int)≠0 by exact Om.k38 hpos hlm)
      have e2:=Int.emod_lt_of_pos (z / 54) hp1
      exact ⟨(z / 54 % ((ZJ n B' (k / n) (k % n)).length:Int)).toNat,by exact Om.z1 ‹_›,by exact Om.k111 hpos hlm e2⟩
     have hx:((ZJ n B' (k / n) (k % n)).map V.int)[m]? = some (.int (ZJ n B' (k / n) (k % n))[m]):=by rw [List.getElem?_map,List.getElem?_eq_getElem hml]; rfl
     have hxm:(ZJ n B' (k / n) (k % n))[m]∈ZJ n B' (k / n) (k % n):=List.getElem_mem hml
     generalize (ZJ n B' (k / n) (k % n))[m]=y at hx hxm
     refine ⟨_,rfl,_,rfl,_,rfl,_,rfl,_,rfl,_,_,rfl,rfl,⟨by decide,by decide⟩,_,rfl,l,_,rfl,.inl (SqL.of hl7),_,_,rfl,rfl,by rw [hlm]; exact hp1,l,_,_,.int y,rfl,rfl,SqL.of hl7,?_,g',n,B',k / n,k % n,.int y,rfl,G6.same s7,S6,h6,hr',hc',fun p8 H8 s8 g8=>?_⟩
     ·show atI _ (z / 54 % (((ZJ n B' (k / n) (k % n)).map V.int).length:Int))=_
      rw [hlm,hm]
      exact ZF hx
     ·exact ⟨_,_,_,p8,_,rfl,s6.trans (s7.trans s8),g8,Zap S6 hr' hc' (.inr ⟨y,rfl⟩),ZaI S6 L6 hr' hc' (Zbb hxm),fun e=>by exact (Om.k110 hi0 e).elim⟩
   ·rintro σ H6 ⟨v7,v8,v9,g',B',rfl,s6,G6,S6,L6,_⟩
    exact ⟨_,rfl,q g' H6 n B' (s02.trans (s3.trans (s35.trans s6))) h1 h6 G6 S6 L6⟩
end
end My
namespace L2
open PySem PySem.Spec PyProof.Rows
noncomputable abbrev ZkQ (acc:Array Value) (c:Nat):Obj:={ cls:=.type "list",dict:=none,data:=.seq acc c,slots:=#[] }
noncomputable abbrev Zat (q:Str):HO:=.tbl #[.str q 0]
noncomputable abbrev JN (qual:Str) (params:Arguments) (body:Expr) (scope:Scope) (pm:Value) (c':Addr) (ctv:Value):Obj:=PySem.W.kla_obj "<lambda>" qual params body scope [] pm c' ctv
noncomputable def Za5 (mg:Str->Option Value) (h:Heap):Prop:=∃ bm ob,mg "__builtins__" = some (.ref bm)/\bm≠builtinsNs/\h.get? bm=some ob/\ob.cls = .type "module" /\ ob.dict=some builtinsNs/\ob.data = .plain
theorem Zfu {pos:Pos} {c cv:Value} {i j:Int} (l:List Value) (h:TriplesOk l) (hs:codeAmong pos (l++[rawInt i,rawInt j,c])=some cv):codeAmong pos l=some cv\/cv=c:=by
 fun_induction TriplesOk l with
 | case1 =>
  simp only [List.nil_append,rawInt,codeAmong] at hs
  split at hs
  ·exact .inr (Option.some.inj hs).symm
  ·cases hs
 | case2 a t b u x rest ih =>
  simp only [List.cons_append,codeAmong] at hs ⊢
  split at hs
  ·rename_i hc
   rw [if_pos hc]
   exact .inl hs
  ·rename_i hc
   rw [if_neg hc]
   exact ih h hs
 | case3 l h1 h2=>exact h.elim
structure Kep (fs:List Addr) (s t:Shared):Prop where
 os:t.os=s.os
 bare:AllBare s.gens->AllBare t.gens
 un:Un fs [] (fun _=>none) (fun _=>none) s.heap t.heap
theorem Kep.trans {fs:List Addr} {s t u:Shared} (a:Kep fs s t) (b:Kep fs t u):Kep fs s u:=⟨b.os.trans a.os,fun z=>b.bare (a.bare z),a.un.trans b.un⟩
theorem Kep.get {fs:List Addr} {s t:Shared} (k:Kep fs s t) {b:Addr} {o:Obj} (e:s.heap.get? b=some o) (hb:b∉fs):t.heap.get? b=some o:=k.un.keep b o e rfl hb (by simp)
theorem Kep.put {fs:List Addr} {s:Shared} {h':Heap} {tk:Nat} (k:∀ b o,s.heap.get? b=some o->h'.get? b=some o):Kep fs s { s with heap:=h',toks:=tk } :=
 ⟨rfl,fun z=>z,Un.kept k⟩
theorem Kep.but {fs:List Addr} {s t:Shared} {h':Heap} {tk:Nat} {a:Addr} (k:Kep fs s t) (ha:s.heap.get? a=none) (haf:a∉fs) (kb:∀ b o,b≠a->t.heap.get? b=some o->h'.get? b=some o):Kep fs s { t with heap:=h',toks:=tk }:=by
 have ne:∀ b o,s.heap.get? b=some o->b≠a:=fun b o e z=>by rw [z,ha] at e; cases e
 refine ⟨k.os,k.bare,⟨fun b o e _ hb _=>kb b o (ne b o e) (k.get e hb),fun b o e n hb hx=>?_,fun _ _ _ _ _=>rfl,fun b o e hx=>?_,fun _ _ z=>(nomatch z),fun _ _ _ z=>(nomatch z),fun _ _ z=>(nomatch z)⟩⟩
 ·obtain ⟨sl,q⟩:=k.un.slot b o e n hb hx
  exact ⟨sl,kb b _ (ne b o e) q⟩
 ·obtain ⟨o',q⟩:=k.un.there b o e hx
  exact ⟨o',kb b _ (ne b o e) q⟩
section
variable {X:Cx} {pins:List (Addr × Obj)} {σ:St} {H:Hp} {s t:Shared}
theorem Inv.kep (I:Inv X pins σ H s) (k:Kep (frs X.stack) s t):Inv X pins σ H t:=by
 have trk:∀ b u,H b=some u->b∉frs X.stack:=fun b u e z=>by rw [I.stkFree b z] at e; cases e
 refine I.call' (ch:=[]) k.os ⟨fun b o e n hb hx=>k.un.keep b o e rfl hb hx,fun b o e n hb hx=>k.un.slot b o e rfl hb hx,fun _ _ _ n _=>n,fun b o e hx=>k.un.there b o e hx,fun _ _ q=>q,fun _ _ _ q=>q,fun _ ps q=>⟨#[],by rw [q]; simp⟩⟩
  (fun b u e=>?_) (k.bare I.bare) fun b z=>absurd z (by simp)
 refine (I.hok b u e).stay (fun c v hc q=>k.get q ?_) (fun _ q=>q) fun _ _ q=>q
 rcases hc with z | z
 ·rw [z]; exact trk b u e
 ·exact trk c _ z
end
section
variable {X:Cx} {pins:List (Addr × Obj)} {σ:St} {H:Hp} {s:Shared} {P c:Addr} {qual:Str} {params:Arguments} {body:Expr} {scope:Scope} {lpos:Pos}
theorem Zh0 {Q:Value->Shared->Prop} {E:Value->Shared->Prop} (I:Inv X pins σ H s) (hP:H P=some (Zat qual)) (hcode:X.env.code = .ref c) (C:PySem.W.CodeHd X.base c P) (B:Za5 X.mg X.base)
  (hq:X.env.qual ++ "<lambda>" = qual) (hdef:defaultsOf params X.env=([],[])) (hcl:closureFor scope X.env=pure [])
  (h:∀ f c' ctv H' s',Same H H'->Inv X pins σ H' s'->s.heap.objs.size<=f->s'.heap.get? f=some (JN qual params body scope ((X.mg "__name__").getD .none) c' ctv)->s'.heap.CodeRec (.ref c') qual->Q (.ref f) s') :
  wpAny (model X.prog X.w) X.A (eval (.Lambda params body scope lpos) X.env) Q E s:=by
 refine PySem.W.kla_eval hdef ?_
 rw [hq]
 obtain ⟨qs,eP,tr,al⟩:=I.hok P _ hP
 have hg:s.heap.Ns mainGlobals X.mg:=I.mod.glob.keeps I.bk
 have neP:∀ b o,X.base.get? b=some o->b≠P:=fun b o e z=>by rw [<- z,(I.bs b o e).2] at hP; cases hP
 have hgP:mainGlobals≠P:=by
  obtain ⟨o,_,_,e,_⟩:=I.mod.glob
  exact neP _ o e
 have hb:s.heap.BuiltinsAt X.mg P:=by
  obtain ⟨bm,ob,b1,b2,b3,b4,b5,b6⟩:=B
  refine ⟨bm,ob,b1,b2,fun z=>?_,neP _ _ b3,I.bk _ _ b3,b4,b5,b6⟩
  obtain ⟨o,es,ep,e,hd,_⟩:=I.mod.glob
  rw [z,e] at b3; cases b3
  rw [hd] at b6; cases b6
 have C':PySem.W.CodeHd s.heap c P:=C.keeps I.bk
 cases hn:codeAmong lpos qs.toList with
 | some cv =>
  obtain ⟨c',oc,vs,q,t,rfl,e2,e3,e4,e5,e6⟩:=al lpos cv hn
  obtain rfl:qual=q:=by injection e6 with z; injection z with z _; injection z
  refine PySem.W.kla_makeFunctionHit (mg:=X.mg) hcl I.ok.glob hg hcode C' eP tr hn hb fun ctv h' tk hk hsz=>?_
  have kk:∀ b o,s.heap.get? b=some o->(h'.push (JN qual params body scope ((X.mg "__name__").getD .none) c' ctv)).get? b=some o:=fun b o e=>Heap.get?_push_of_some _ (hk b o e)
  exact h _ c' ctv H _ (Same.refl H) (I.kept (t':=tk) kk) hsz (Heap.get?_push_size _ rfl) ⟨c',oc,vs,t,rfl,kk _ _ e3,e4,e5⟩
 | none =>
  refine PySem.W.kla_makeFunction (mg:=X.mg) hcl I.ok.glob hg hcode C' eP tr hn hgP hb fun c' ctv h' tk hx hge hlt hrec htb=>?_
  have hc0:H c'=none:=I.hok.fresh hge
  have kk:∀ b o,b≠P->s.heap.get? b=some o->(h'.push (JN qual params body scope ((X.mg "__name__").getD .none) c' ctv)).get? b=some o:=fun b o n e=>Heap.get?_push_of_some _ (hx b o n e)
  obtain ⟨c2,oc,vs,t,ec,e3,e4,e5⟩:=hrec
  obtain rfl:c'=c2:=by injection ec
  have e3':(h'.push (JN qual params body scope ((X.mg "__name__").getD .none) c' ctv)).get? c'=some oc:=Heap.get?_push_of_some _ e3
  have htb':(h'.push (JN qual params body scope ((X.mg "__name__").getD .none) c' ctv)).get? P=some (PySem.W.tabObj (qs ++ #[rawInt lpos.line,rawInt lpos.col,.ref c'])):=Heap.get?_push_of_some _ htb
  have hPc:P≠c':=Zm hP hc0
  have tl:(qs ++ #[rawInt lpos.line,rawInt lpos.col,.ref c']).toList=qs.toList++[rawInt lpos.line,rawInt lpos.col,.ref c']:=by simp
  have hok:HOk X.prog X.w (upd H c' (.own P)) (h'.push (JN qual params body scope ((X.mg "__name__").getD .none) c' ctv)):=fun b u e=>by
   by_cases hb1:b=c'
   ·subst hb1
    rw [Zd] at e
    cases e
    exact ⟨_,e3'⟩
   ·rw [Zh hb1] at e
    by_cases hb2:b=P
    ·subst hb2
     rw [hP] at e
     cases e
     refine ⟨_,htb',?_,fun pos cv hcv=>?_⟩
     ·rw [tl]
      exact TriplesOk_snoc _ _ _ _ tr
     ·rw [tl] at hcv
      rcases Zfu _ tr hcv with hcv | rfl
      ·obtain ⟨d,od,ws,q,t',f1,f2,f3,f4,f5,f6⟩:=al pos cv hcv
       exact ⟨d,od,ws,q,t',f1,by rw [Zh (Zm f2 hc0)]; exact f2,kk _ _ (Yi f2 hP (by intro z; cases z)) f3,f4,f5,f6⟩
      ·exact ⟨c',oc,vs,qual,t,rfl,Zd,e3',e4,e5,rfl⟩
    ·refine (I.hok b u e).stay (fun d v hd q=>kk d v ?_ q) (fun d q=>by rw [Zh (Zm q hc0)]; exact q) fun d xs q=>by rw [Zh (Zm q hc0)]; exact q
     rcases hd with z | z
     ·rw [z]; exact hb2
     ·exact Yi z hP (by intro w; cases w)
  have un:Un X.fs [] H (upd H c' (.own P)) s.heap (h'.push (JN qual params body scope ((X.mg "__name__").getD .none) c' ctv)):=by
   have nP:∀ b,H b=none->b≠P:=fun b n z=>by rw [z,hP] at n; cases n
   refine ⟨fun b o e n _ _=>kk b o (nP b n) e,fun b o e n _ _=>⟨o.slots,kk b o (nP b n) e⟩,fun b o e n _=>?_,fun b o e _=>?_,fun b xs q=>by rw [Zh (Zm q hc0)]; exact q,fun b o u q=>by rw [Zh (Zm q hc0)]; exact q,fun b ps q=>⟨#[],by rw [Zh (Zm q hc0),q]; simp⟩⟩
   ·rw [Zh (Nat.ne_of_lt (Nat.lt_of_lt_of_le (Heap.lt_size e) hge))]; exact n
   ·by_cases hb2:b=P
    ·rw [hb2]; exact ⟨_,htb'⟩
    ·exact ⟨o,kk b o hb2 e⟩
  exact h _ c' ctv _ _ (Same.new hc0) (I.un (t':=tk) un hok) (Nat.le_trans hge (Nat.le_of_lt hlt)) (Heap.get?_push_size _ rfl) ⟨c',oc,vs,t,rfl,e3',e4,e5⟩
end
theorem Zi5 {P:Program} {w:World} {K:PySem.W.Frag} {mg:Str->Option Value} {base:Heap} {A:Around} {outer:List Env} {s:Shared} {H:Hp} {f c':Addr} {qual:Str} {params:Arguments} {body:Expr} {scope:Scope} {pm ctv:Value} {x:Str} {u:Value} {v:V} {Q:VK} {tb:TE}
  (hr:Room 1 A) (e0:Env0 P w K mg base A outer s H) (hf:s.heap.get? f=some (JN qual params body scope pm c' ctv)) (hc:s.heap.CodeRec (.ref c') qual) (S:Zt [x] [x] scope)
  (hbind:bindArgs (PySem.W.kla_fn "<lambda>" qual params body scope [] pm (.ref c') ctv) ⟨[u],[]⟩=pure [(x,u)]) (r:RelV v u)
  (hb:PE (Z9 CX0 P w K mg base [x] qual scope f (.ref c') A outer s H E0).nox body tb) (hq:tb [some v] H Q) :
  codeAny (model P w) A (.call (.ref f) ⟨[u],[]⟩) (CR CX0 outer P w H s Q E0) s:=by
 have lim:s.heap.NoLimit:=e0.mod.nolimit.keeps fun b o e=>(e0.bs b o e).1
 have hkind:∀ y∈([x]:List Str).zip [u],scope.names.lookup y.1=some .local\/(scope.names.lookup y.1=some .cell/\((cellsFrom (s.heap.objs.size+1) scope.names []).lookup y.1).isSome=true):=fun ⟨n,v⟩ hy=>by
  rcases S.par n (List.of_mem_zip hy).1 with q | q
  ·exact .inl q
  ·exact .inr ⟨q,PySem.W.cellsFrom_some _ _ _ (.inl q)⟩
 refine PySem.W.kla_callFunE hr.depth hf rfl S.co S.gen rfl hc ?_
 rw [hbind]
 refine wpAny_pure ?_
 refine wpAny_newFunctionEnv_cells S.kind hkind fun env he s1 z=>?_
 subst he
 refine ⟨lim.keeps z.toInCall.keep,PySem.W.kla_codeExpr ?_⟩
 have I:Inv (Z9 CX0 P w K mg base [x] qual scope f (.ref c') A outer s H E0) [] (start [x] [v]) H s1:=Zc0 S hr.hd e0 rfl (.cons r .nil) z
 have I':Inv (Z9 CX0 P w K mg base [x] qual scope f (.ref c') A outer s H E0).nox [] (start [x] [v]) H s1:=⟨⟨I.ok.mod,I.ok.kind,I.ok.glob,I.ok.blt,I.ok.above,I.ok.inj,I.ok.has,I.ok.cab,I.ok.hd,I.ok.frames,I.ok.stk,I.ok.exf,I.ok.bs,I.ok.bsz,I.ok.noex,I.ok.exfs,I.ok.funs,I.ok.frf⟩,I.os,I.bare,I.base,I.loc,I.cell,I.free,I.freeC,I.pin,I.hok,I.len⟩
 refine wpAny_mono (hb [] s1 (start [x] [v]) H Q I' hq) (fun u' s' hs=>?_) fun e s' hs=>hs.elim
 obtain ⟨v',H',J,rv,q⟩:=hs
 exact ⟨v',H',J.os,J.bare,J.base,J.hok,rv,q⟩
end L2
namespace L2
open PySem PySem.Spec PyProof.Rows
structure FirstLeast (kf:Nat->Int) (n i:Nat):Prop where
 lt:i<n
 le:∀ j,j<n->kf i<=kf j
 fst:∀ j,j<i->kf i<kf j
theorem FirstLeast.one (kf:Nat->Int):FirstLeast kf 1 0:=by
 refine ⟨Nat.one_pos,fun j hj=>?_,fun j hj=>absurd hj (Nat.not_lt_zero _)⟩
 obtain rfl:j=0:=by exact Om.k109 hj
 exact Int.le_refl _
theorem FirstLeast.less {kf:Nat->Int} {n i:Nat} (h:FirstLeast kf n i) (hk:kf n<kf i):FirstLeast kf (n+1) n :=
 ⟨Nat.lt_succ_self _,fun j hj=>by
  by_cases e:j=n
  ·rw [e]; exact Int.le_refl _
  ·have:=h.le j (by exact Om.k49 hj e); omega,fun j hj=>by have:=h.le j hj; omega⟩
theorem FirstLeast.more {kf:Nat->Int} {n i:Nat} (h:FirstLeast kf n i) (hk:¬ kf n<kf i):FirstLeast kf (n+1) i :=
 ⟨Nat.lt_succ_of_lt h.lt,fun j hj=>by
  by_cases e:j=n
  ·rw [e]; exact Om.k73 hk
  ·exact h.le j (by exact Om.k49 hj e),h.fst⟩
theorem FirstLeast.uniq {kf:Nat->Int} {n i j:Nat} (a:FirstLeast kf n i) (b:FirstLeast kf n j):i=j:=by
 rcases Nat.lt_trichotomy i j with h | h | h
 ·have:=b.fst i h; have:=a.le j b.lt; exact (Om.k108 ‹_› this).elim
 ·exact h
 ·have:=a.fst j h; have:=b.le i a.lt; exact (Om.k108 ‹_› this).elim
section
variable {prog:Program} {w:World} {A:Around} {R:Result->Shared->Prop} {fs:List Addr} {s:Shared} {it l bx q:Addr} {vs:List Value}
theorem ZbJ:(toString "min" ++ toString ".loop" : String) = "min.loop":=by decide
theorem Zi0 (kf:Nat->Int) (hh:A.in1.handled=none) (hl:s.heap.IsList l vs.toArray) (n0:s.heap.get? it=none) (n1:s.heap.get? bx=none) (n2:it∉fs) (n3:bx∉fs) (n4:bx≠it) (n5:l≠it) (n6:l∉fs)
  (turn:∀ i v t,vs[i]? = some v->Kep fs s t->wpAny (model prog w) A.in1 (call (.ref q) [v]) (fun u t2=>(∃ tk,u = .int (kf i) tk)/\Kep fs t t2) (fun _ _=>False) t)
  (hR:∀ i v t,vs[i]? = some v->FirstLeast kf vs.length i->Kep fs s t->R (.ok (.ret v)) t) :
  ∀ (r j i:Nat) (t:Shared) (vb:Value) (tb:Tok) (c:Nat),vs.length - j=r->j<=vs.length->FirstLeast kf j i->Kep fs s t->t.heap.get? bx=some (ZkQ #[vb,.int (kf i) tb] c)->t.heap.IsListIter it l j->vs[i]? = some vb ->
   codeAny (model prog w) A (.builtin "min.loop" ⟨[.ref it,.ref q,.ref bx],[]⟩) R t:=by
 have Wk:=Walks.list (prog:=prog) (w:=w) (A:=A.in1) hh it l n5 vs.toArray
 have hsz:vs.toArray.size=vs.length:=List.size_toArray ..
 have lst:∀ t,Kep fs s t->t.heap.IsList l vs.toArray:=fun t k=>hl.at fun o e=>k.get e n6
 intro r
 induction r with
 | zero =>
  intro j i t vb tb c hr hj fl k hx st hvb
  have e:j=vs.length:=by exact Om.k107 hr hj
  refine codeAny_builtin PySem.F.entry_min_loop ?_
  rw [Around.under_plainId PySem.F.plain_min_loop _]
  refine wpAny_bind (m:=seqItems? (.ref bx)) (wpAny_seqItems hx rfl ?_)
  refine wpAny_bind (m:=tryCatch (pyNext (.ref it)) _) (wpAny_tryCatch (Wk.done t _ _ ⟨by rw [hsz,<- e]; exact st,lst t k⟩ fun h2 tk k2=>?_))
  have hx2:=k2 bx _ (by simpa using n4) hx
  refine wpAny_bind (m:=updateSeq bx fun _=>#[]) (wpAny_updateSeq hx2 rfl (wpAny_bind (wpAny_letGo (wpAny_pure ?_))))
  have k1:Kep fs s { t with heap:=h2,toks:=tk }:=k.but n0 n2 fun b o nb z=>k2 b o (by simpa using nb) z
  exact hR i vb _ hvb (e ▸ fl) (Kep.but (tk:=tk) k1 n1 n3 fun b o nb z=>(Heap.get?_update_other _ _ (Ne.symm nb)).trans z)
 | succ r ih =>
  intro j i t vb tb c hr hj fl k hx st hvb
  have hlt:j<vs.length:=by exact Om.k106 hr hj
  refine codeAny_builtin PySem.F.entry_min_loop ?_
  rw [Around.under_plainId PySem.F.plain_min_loop _]
  refine wpAny_bind (m:=seqItems? (.ref bx)) (wpAny_seqItems hx rfl ?_)
  refine wpAny_bind (m:=tryCatch (pyNext (.ref it)) _) (wpAny_tryCatch (Wk.item j t _ _ (by rw [hsz]; exact hlt) ⟨st,lst t k⟩ fun x h2 tk px st2 k2=>?_))
  have hx2:=k2 bx _ (by simpa using n4) hx
  have hv:vs[j]? = some x:=by simpa using px
  have k1:Kep fs s { t with heap:=h2,toks:=tk }:=k.but n0 n2 fun b o nb z=>k2 b o (by simpa using nb) z
  show wpAny _ A.in1 (tryCatch (holding [x] (call (.ref q) [x])) _ >>= _) _ _ { t with heap:=h2,toks:=tk }
  refine wpAny_bind (wpAny_tryCatch (wpAny_holding (wpAny_mono (turn j x _ hv k1) (fun u t2 hu=>?_) fun _ _ z=>z.elim)))
  obtain ⟨⟨tu,rfl⟩,k12⟩:=hu
  have k3:Kep fs s t2:=k1.trans k12
  have hx3:=k12.get hx2 n3
  have it3:t2.heap.IsListIter it l (j+1):=let ⟨o,e1,r1⟩:=st2.1; ⟨o,k12.get e1 n2,r1⟩
  show wpAny _ A.in1 (tryCatch (holding [x,.int (kf j) tu] (richCompare .Lt (.int (kf j) tu) (.int (kf i) tb) >>= _)) _ >>= _) _ _ t2
  refine wpAny_bind (wpAny_tryCatch (wpAny_holding (wpAny_bind (HT.rcLt_int _ _ _ _ _ _ _ _ _ _ ?_))))
  refine wpAny_bind (wpAny_holding (wpAny_truthy_bool (wpAny_bind (wpAny_letGo (wpAny_pure ?_)))))
  by_cases hb:kf j<kf i
  ·rw [decide_eq_true hb]
   simp only [if_true]
   refine wpAny_bind (wpAny_updateSeq hx3 rfl (wpAny_bind (wpAny_letGo ?_)))
   rw [ZbJ]
   have up:∀ b o,b≠bx->t2.heap.get? b=some o->(t2.heap.update bx (Obj.mapSeq fun _=>#[x,.int (kf j) tu])).get? b=some o:=fun b o nb z=>(Heap.get?_update_other _ _ (Ne.symm nb)).trans z
   refine wpAny_pure ⟨plainId_quiet PySem.F.plain_min_loop _,ih (j+1) j _ x tu _ (by exact Om.k105 hr hlt) hlt (fl.less hb) (k3.but (tk:=t2.toks) n1 n3 up) (Heap.get?_update_self _ hx3 rfl) ?_ hv⟩
   obtain ⟨o,e1,r1⟩:=it3
   exact ⟨o,up _ _ (Ne.symm n4) e1,r1⟩
  ·rw [decide_eq_false hb]
   simp only [Bool.false_eq_true,if_false]
   refine wpAny_bind (wpAny_letGo ?_)
   rw [ZbJ]
   exact wpAny_pure ⟨plainId_quiet PySem.F.plain_min_loop _,ih (j+1) i t2 vb tb c (by exact Om.k105 hr hlt) hlt (fl.more hb) k3 hx3 it3 hvb⟩
theorem ZhV (kf:Nat->Int) (hh:A.in1.handled=none) (hl:s.heap.IsList l vs.toArray) (n0:s.heap.get? it=none) (n1:s.heap.get? bx=none) (n2:it∉fs) (n3:bx∉fs) (n4:bx≠it) (n5:l≠it) (n6:l∉fs)
  (turn:∀ i v t,vs[i]? = some v->Kep fs s t->wpAny (model prog w) A.in1 (call (.ref q) [v]) (fun u t2=>(∃ tk,u = .int (kf i) tk)/\Kep fs t t2) (fun _ _=>False) t)
  (hR:∀ i v t,vs[i]? = some v->FirstLeast kf vs.length i->Kep fs s t->R (.ok (.ret v)) t) (hn:0<vs.length) {t:Shared} {c:Nat} (k:Kep fs s t) (hx:t.heap.get? bx=some (ZkQ #[] c)) (st:t.heap.IsListIter it l 0) :
  codeAny (model prog w) A (.builtin "min.loop" ⟨[.ref it,.ref q,.ref bx],[]⟩) R t:=by
 have Wk:=Walks.list (prog:=prog) (w:=w) (A:=A.in1) hh it l n5 vs.toArray
 have hsz:vs.toArray.size=vs.length:=List.size_toArray ..
 refine codeAny_builtin PySem.F.entry_min_loop ?_
 rw [Around.under_plainId PySem.F.plain_min_loop _]
 refine wpAny_bind (m:=seqItems? (.ref bx)) (wpAny_seqItems hx rfl ?_)
 refine wpAny_bind (m:=tryCatch (pyNext (.ref it)) _) (wpAny_tryCatch (Wk.item 0 t _ _ (by rw [hsz]; exact hn) ⟨st,hl.at fun o e=>k.get e n6⟩ fun x h2 tk px st2 k2=>?_))
 have hx2:=k2 bx _ (by simpa using n4) hx
 have hv:vs[0]? = some x:=by simpa using px
 have k1:Kep fs s { t with heap:=h2,toks:=tk }:=k.but n0 n2 fun b o nb z=>k2 b o (by simpa using nb) z
 show wpAny _ A.in1 (tryCatch (holding [x] (call (.ref q) [x])) _ >>= _) _ _ { t with heap:=h2,toks:=tk }
 refine wpAny_bind (wpAny_tryCatch (wpAny_holding (wpAny_mono (turn 0 x _ hv k1) (fun u t2 hu=>?_) fun _ _ z=>z.elim)))
 obtain ⟨⟨tu,rfl⟩,k12⟩:=hu
 have k3:Kep fs s t2:=k1.trans k12
 have hx3:=k12.get hx2 n3
 have it3:t2.heap.IsListIter it l (0+1):=let ⟨o,e1,r1⟩:=st2.1; ⟨o,k12.get e1 n2,r1⟩
 have up:∀ b o,b≠bx->t2.heap.get? b=some o->(t2.heap.update bx (Obj.mapSeq fun _=>#[x,.int (kf 0) tu])).get? b=some o:=fun b o nb z=>(Heap.get?_update_other _ _ (Ne.symm nb)).trans z
 refine wpAny_bind (m:=updateSeq bx fun _=>#[x,.int (kf 0) tu]) (wpAny_updateSeq hx3 rfl ?_)
 rw [ZbJ]
 refine wpAny_pure ⟨plainId_quiet PySem.F.plain_min_loop _,Zi0 kf hh hl n0 n1 n2 n3 n4 n5 n6 turn hR _ 1 0 _ x tu _ rfl hn (.one kf) (k3.but (tk:=t2.toks) n1 n3 up) (Heap.get?_update_self _ hx3 rfl) ?_ hv⟩
 obtain ⟨o,e1,r1⟩:=it3
 exact ⟨o,up _ _ (Ne.symm n4) e1,r1⟩
theorem Zi1 {E:Value->Shared->Prop} {Q:Value->Shared->Prop} (kf:Nat->Int) (hh:A.handled=none) (hl:s.heap.IsList l vs.toArray) (hn:0<vs.length) (hf:∀ b∈fs,b<s.heap.objs.size) (n6:l∉fs)
  (turn:∀ i v t,vs[i]? = some v->Kep fs s t->wpAny (model prog w) A.in1 (call (.ref q) [v]) (fun u t2=>(∃ tk,u = .int (kf i) tk)/\Kep fs t t2) (fun _ _=>False) t)
  (hQ:∀ i v t,vs[i]? = some v->FirstLeast kf vs.length i->Kep fs s t->Q v t) :
  wpAny (model prog w) A (call (.builtin "min") [.ref l] [(Str.ofString "key",.ref q)]) Q E s:=by
 have ll:l<s.heap.objs.size:=let ⟨o,e,_⟩:=hl; Heap.lt_size e
 refine kmk_tree PySem.F.kind_min PySem.F.plain_min PySem.F.entry_min (kmk_min_key _ _) ?_
 refine wpAny_bind (wpAny_of_eq (a:=[some (.ref q),none]) rfl (wpAny_bind (wpAny_pure (wpAny_bind (m:=pyIter (.ref l)) ?_))))
 refine wpAny_pyIter_list hl ?_
 refine wpAny_bind (wpAny_newObj_type ?_)
 rw [ZbJ]
 have z1:(s.heap.push { cls:=.type "list_iterator",data:=.fields #[.ref l,.int 0 0] }).objs.size=s.heap.objs.size+1:=Heap.size_push ..
 have k2:∀ b o,s.heap.get? b=some o->((s.heap.push { cls:=.type "list_iterator",data:=.fields #[.ref l,.int 0 0] }).push { cls:=.type "list",data:=.seq #[] }).get? b=some o:=fun b o e=>Heap.get?_push_of_some _ (Heap.get?_push_of_some _ e)
 refine wpAny_pure ⟨plainId_quiet PySem.F.plain_min_loop _,?_⟩
 refine ZhV (it:=s.heap.objs.size) (bx:=(s.heap.push { cls:=.type "list_iterator",data:=.fields #[.ref l,.int 0 0] }).objs.size) (vs:=vs) (s:=s) (fs:=fs) kf (by simpa using hh) hl (Heap.get?_none_of_le (Nat.le_refl _)) (Heap.get?_none_of_le (by rw [z1]; exact Nat.le_succ _))
  (fun z=>absurd (hf _ z) (Nat.lt_irrefl _)) (fun z=>absurd (hf _ z) (by rw [z1]; exact Nat.not_succ_lt_self)) (by rw [z1]; exact Nat.succ_ne_self _) (Nat.ne_of_lt ll) n6 turn (fun i v t a b c=>hQ i v t a b c) hn (c:=0) (Kep.put (tk:=s.toks) k2) (Heap.get?_push_size _ rfl) ?_
 exact ⟨_,Heap.get?_push_of_some _ (Heap.get?_push_size _ rfl),rfl,rfl⟩
end
noncomputable def Ziz (P:Addr) (qual:Str) (te:TA):TE:=fun σ H Q=>te σ H fun xs H1=>H1 P=some (Zat qual)/\∃ (l:Addr) (ps:List Addr) (kf:Nat->Int),xs=[.ref l]/\H1 l=some (.lst (ps.map V.ref))/\0<ps.length /\
 (∀ i p,ps[i]? = some p->∃ (a:V) (b:Addr) (ys:List V),H1 p=some (.tup [a,.ref b])/\H1 b=some (.lst ys)/\kf i=(ys.length:Int))/\∀ i p H2,ps[i]? = some p->FirstLeast kf ps.length i->Same H1 H2->Q (.ref p) H2
section
variable {X:Cx} {pins:List (Addr × Obj)} {σ:St} {H:Hp} {s:Shared} {qual:Str} {params:Arguments} {body:Expr} {scope:Scope} {x:Str} {tb:TE} {f c' p b:Addr} {pm ctv:Value} {a:V} {ys:List V}
theorem Zi6 (hr:Room 2 X.A) (I:Inv X pins σ H s) (hf:s.heap.get? f=some (JN qual params body scope pm c' ctv)) (hc:s.heap.CodeRec (.ref c') qual) (S:Zt [x] [x] scope)
  (hbind:∀ u,bindArgs (PySem.W.kla_fn "<lambda>" qual params body scope [] pm (.ref c') ctv) ⟨[u],[]⟩=pure [(x,u)])
  (hb:∀ (A:Around) (outer:List Env) (s:Shared) (H:Hp),PE (Z9 CX0 X.prog X.w X.K X.mg X.base [x] qual scope f (.ref c') A outer s H E0).nox body tb)
  (hrd:∀ (H:Hp) (Q:VK),SqT X.K H p [a,.ref b]->SqL X.K H b ys->Q (.int ys.length) H->tb [some (.ref p)] H Q) (hp:H p=some (.tup [a,.ref b])) (hy:H b=some (.lst ys)) :
  wpAny (model X.prog X.w) X.A.in1 (call (.ref f) [.ref p]) (fun u t=>(∃ tk,u = .int (ys.length:Int) tk)/\Kep (frs X.stack) s t) (fun _ _=>False) s:=by
 have e1:=I.env0.in1
 obtain ⟨op,gp⟩:∃ o,s.heap.get? p=some o:=let ⟨_,_,_,o,e,_⟩:=I.hok p _ hp; ⟨o,e⟩
 obtain ⟨ob,gb⟩:∃ o,s.heap.get? b=some o:=let ⟨_,_,_,_,e⟩:=I.hok b _ hy; ⟨_,e⟩
 have hpb:p≠b:=Yi hp hy (by intro z; cases z)
 let Z:Hp:=fun d=>if d=p then some (.frz op (.tup [a,.ref b])) else if d=b then some (.frz ob (.lst ys)) else none
 have Zp:Z p=some (.frz op (.tup [a,.ref b])):=if_pos rfl
 have Zb:Z b=some (.frz ob (.lst ys)):=(if_neg (Ne.symm hpb)).trans (if_pos rfl)
 have Zn:∀ d,d≠p->d≠b->Z d=none:=fun d n1 n2=>(if_neg n1).trans (if_neg n2)
 have Zof:∀ d,H d=none->Z d=none:=fun d n=>Zn d (fun z=>by rw [z,hp] at n; cases n) (fun z=>by rw [z,hy] at n; cases n)
 have hZ:HOk X.prog X.w Z s.heap:=fun d u e=>by
  by_cases n1:d=p
  ·subst n1
   rw [Zp] at e; cases e
   exact ⟨gp,I.hok d _ hp⟩
  ·by_cases n2:d=b
   ·subst n2
    rw [Zb] at e; cases e
    exact ⟨gb,I.hok d _ hy⟩
   ·rw [Zn d n1 n2] at e; cases e
 have e0:Env0 X.prog X.w X.K X.mg X.base X.A.in1 X.stack s Z:=⟨e1.frames,e1.mod,fun d o e=>⟨(e1.bs d o e).1,Zof d (e1.bs d o e).2⟩,e1.bsz,e1.funs,fun d hd=>Zof d (e1.frf d hd),hZ,e1.bare⟩
 refine wpAny_call (codeAny_mono (Zi5 (Q:=fun v H'=>v = .int (ys.length:Int)/\H'=Z) hr.in1 e0 hf hc S (hbind _) (v:=.ref p) rfl (hb _ _ _ _) (hrd Z _ (.inl (.inr ⟨_,Zp⟩)) (.inl (.inr ⟨_,Zb⟩)) ⟨rfl,rfl⟩)) fun r t hq=>?_)
 cases r with
 | error e=>exact False.elim hq
 | ok fl =>
  cases fl with
  | next=>exact False.elim hq
  | brk=>exact False.elim hq
  | cont=>exact False.elim hq
  | ret u =>
   obtain ⟨v,H',os,bare,un,hok,rv,rfl,rfl⟩:=hq
   refine ⟨rv,os,fun _=>bare,⟨fun d o e n hd hx=>?_,fun d o e n hd hx=>?_,fun _ _ _ _ _=>rfl,fun d o e hx=>un.there d o e hx,fun _ _ z=>(nomatch z),fun _ _ _ z=>(nomatch z),fun _ _ z=>(nomatch z)⟩⟩
   ·by_cases n1:d=p
    ·subst n1
     rw [gp] at e; cases e
     exact (hok d _ Zp).1
    ·by_cases n2:d=b
     ·subst n2
      rw [gb] at e; cases e
      exact (hok d _ Zb).1
     ·exact un.keep d o e (Zn d n1 n2) hd hx
   ·exact un.slot d o e (Zof d (I.stkFree d hd)) hd hx
end
theorem Zgw {X:Cx} {e:Expr} {params:Arguments} {body:Expr} {scope:Scope} {lpos p pos kpos:Pos} {t:TA} {tb:TE} {x qual:Str} {c P:Addr} (hr:Room 2 X.A) (hc:X.calm=true) (hg:Gl X "min") (hm:X.mg "min" = none) (ha:PA X [e] t)
  (hcode:X.env.code = .ref c) (C:PySem.W.CodeHd X.base c P) (B:Za5 X.mg X.base) (S:Zt [x] [x] scope)
  (hb:∀ (f c':Addr) (A:Around) (outer:List Env) (s:Shared) (H:Hp),PE (Z9 CX0 X.prog X.w X.K X.mg X.base [x] qual scope f (.ref c') A outer s H E0).nox body tb)
  (hrd:∀ (H:Hp) (p b:Addr) (a:V) (ys:List V) (Q:VK),SqT X.K H p [a,.ref b]->SqL X.K H b ys->Q (.int ys.length) H->tb [some (.ref p)] H Q)
  (hbind:∀ (pm ctv:Value) (c':Addr) (u:Value),bindArgs (PySem.W.kla_fn "<lambda>" qual params body scope [] pm (.ref c') ctv) ⟨[u],[]⟩=pure [(x,u)]:=by intros; rfl)
  (hq:X.env.qual ++ "<lambda>" = qual:=by rfl) (hdef:defaultsOf params X.env=([],[]):=by rfl) (hcl:closureFor scope X.env=pure []:=by rfl)
  (h1:backTo pos (starEach [e] X.env)=(false,eval e X.env)::backTo pos (starEach [] X.env):=by rfl) (hpl:(backTo pos (starEach [e] X.env)).any (·.1)=false:=by rfl) :
  PE X (.Call (.Name "min" p) [e] [⟨some "key",.Lambda params body scope lpos,kpos⟩] pos) (Ziz P qual t):=by
 intro pins s σ H Q I h
 refine wpAny_Call_Name_kw (ZdC I hg hm boot_min ?_ (by decide) (by decide))
 refine callWith_kw ?_ h1 hpl
 refine thn (ha pos pins s σ H _ I h) fun us s1 zz0=>?_
 obtain ⟨xs,H1,I1,r1,hP,l,ps,kf,hxs,hl,hn,hk,q1⟩:=zz0
 subst hxs
 obtain ⟨u,rfl,ru⟩:=r1.one
 cases ru
 show wpAny _ _ (evalAll ((do let v <- eval (.Lambda params body scope lpos) X.env; standAt pos; pure v)::[])) _ _ s1
 refine wpAny_evalAll_cons (wpAny_bind ?_)
 refine Zh0 I1 hP hcode C B hq hdef hcl fun f c' ctv H2 s2 sm I2 hge hf hcr=>?_
 refine wpAny_bind (wpAny_standAt (wpAny_pure (wpAny_evalAll_nil ?_)))
 show wpAny (model X.prog X.w) X.A (call (.builtin "min") [.ref l] [(Str.ofString "key",.ref f)]) _ _ s2
 have hl2:=sm _ _ hl
 obtain ⟨z,its,nc,rv,pl⟩:=I2.hok l _ hl2
 have hlen:its.length=ps.length:=by rw [<- rv.length,List.length_map]
 have at':∀ i u,its[i]? = some u->∃ p,ps[i]? = some p/\u=Value.ref p:=fun i u e=>by
  have hi:i<ps.length:=by rw [<- hlen]; exact (List.getElem?_eq_some_iff.mp e).1
  obtain ⟨u',e',r'⟩:=Vals.get (i:=i) (x:=V.ref ps[i]) rv (by rw [List.getElem?_map,List.getElem?_eq_getElem hi]; rfl)
  rw [e] at e'; cases e'
  exact ⟨ps[i],List.getElem?_eq_getElem hi,r'⟩
 have flt:∀ d∈frs X.stack,d<s2.heap.objs.size:=fun d hd=>by
  obtain ⟨_,o,ho,_⟩:=I2.stack.mem hd
  exact Heap.lt_size ho
 have ffs:f∉frs X.stack:=fun z=>by
  obtain ⟨_,o,ho,_⟩:=I1.stack.mem z
  exact absurd (Nat.lt_of_lt_of_le (Heap.lt_size ho) hge) (Nat.lt_irrefl _)
 obtain ⟨c2,oc,vs2,tq,ec,e3,e4,e5⟩:=hcr
 cases ec
 have cfs:c'∉frs X.stack:=fun z=>by
  obtain ⟨_,o,ho,hd⟩:=I2.stack.mem z
  rw [e3] at ho; cases ho
  exact hd vs2 e4
 refine Zi1 kf (I2.ok.hd hc) (l:=l) (vs:=its) (q:=f) (fs:=frs X.stack) ⟨_,pl,rfl,_,rfl⟩ (by rw [hlen]; exact hn) flt (fun z=>by rw [I2.stkFree l z] at hl2; cases hl2) (fun i u t hu k=>?_) fun i u t hu fl k=>?_
 ·obtain ⟨pi,hpi,rfl⟩:=at' i u hu
  obtain ⟨a,b,ys,e6,e7,e8⟩:=hk i pi hpi
  rw [e8]
  exact Zi6 hr (I2.kep k) (k.get hf ffs) ⟨c',oc,vs2,tq,rfl,k.get e3 cfs,e4,e5⟩ S (fun u=>hbind _ _ _ u) (fun A outer s H=>hb f c' A outer s H) (fun H Q=>hrd H pi b a ys Q) (sm _ _ e6) (sm _ _ e7)
 ·obtain ⟨pi,hpi,rfl⟩:=at' i u hu
  rw [hlen] at fl
  exact ⟨.ref pi,H2,I2.kep k,rfl,q1 i pi H2 hpi fl sm⟩
end L2
namespace L2
open PySem PySem.Spec PyProof.Rows
theorem Zjy {a b:String} (h:a≠b):Value.type a≠Value.type b:=fun z=>h (by injection z)
theorem Zg8 {K:PySem.W.Frag} {x:Str} {f c P:Addr} {oc:Value} {od:Option Addr} {sl:Array (Option Value)} {fd:FuncData} {oc2:Value} {od2:Option Addr} {sl2:Array (Option Value)} {vs:Array Value}
  (a:PySem.W.nsIn K mainGlobals x=some (some (.ref f))) (l:K.lookup f=some ⟨oc,od,.func fd,sl⟩) (hc:fd.code = .ref c) (lc:K.lookup c=some ⟨oc2,od2,.fields vs,sl2⟩) (hv:vs[11]? = some (.ref P)):PySem.W.tabIn K x=some (c,P):=by
 unfold PySem.W.tabIn
 simp only [a,l,hc,lc,hv]
theorem ZgL {P:Program} {w:World} {K:PySem.W.Frag} {mg mb:Str->Option Value} {k:Nat} {fa a c T:Addr} {fd:FuncData} {x qual:Str} {sp:Sp} {s₁:Shared} {vs:List Value} {ns:List Int}
  (KX:K.In s₁.heap) (hns:s₁.heap.Ns mainGlobals mg) (hb:s₁.heap.Ns builtinsNs mb) (hbb:∀ x:Str,x ≠ "__name__" -> mb x=bootBuiltins x) (hlim:s₁.heap.NoLimit) (hbm:Za5 mg s₁.heap) (hg:s₁.gens = #[])
  (hC:PySem.W.CodeHd s₁.heap c T) (hT:s₁.heap.get? T=some (PySem.W.tabObj #[])) (hK:PySem.W.noTabs K=true)
  (ha:s₁.heap.get? a=some { cls:=.type "list",data:=.seq vs.toArray }) (hi:IntsAre vs ns) (hl:ns.length<=sizeLine) (hr:Room k callerA)
  (F:∀ base:Heap,PySem.W.CodeHd base c T->Za5 mg base->FnOk P w K mg base CX0 k fa fd [x] sp) (hbind:∀ (s:Shared) (u:Value),BindsTo s fd ⟨[u],[]⟩ [(x,u)])
  (hsp:∀ H:Hp,H T=some (Zat qual)->SqL K H a (ns.map V.int)->sp [.ref a] H (fun v _=>v = .bl true) fun _ _ _=>False) :
  codeAny (model P w) callerA (.call (.ref fa) ⟨[.ref a],[]⟩) (fun r s'=>r = .ok (.ret (.bool true))/\OldK s₁.heap s'.heap/\s'.os=s₁.os/\AllBare s'.gens) s₁:=by
 have rv:=ZcJ hi
 have lenV:=hi.length
 have hTa:a≠T:=fun z=>by rw [z,hT] at ha; cases ha
 have hKT:K.lookup T=none:=by
  cases q:K.lookup T with
  | none=>rfl
  | some o =>
   have e:=KX T o q
   rw [hT] at e
   cases e
   have h2:=List.all_eq_true.mp hK (T,PySem.W.tabObj #[]) (PySem.W.mem_of_lookupK q)
   exact absurd (show false=true from h2) Bool.false_ne_true
 have core:∀ H:Hp,H T=some (Zat qual)->(∀ b,b≠T->H b=none\/(b=a/\K.lookup a=none/\∃ xs,H b=some (.frz { cls:=.type "list",data:=.seq vs.toArray } (.lst xs))))->SqL K H a (ns.map V.int)->HOk P w H s₁.heap ->
   codeAny (model P w) callerA (.call (.ref fa) ⟨[.ref a],[]⟩) (fun r s'=>r = .ok (.ret (.bool true))/\OldK s₁.heap s'.heap/\s'.os=s₁.os/\AllBare s'.gens) s₁:=by
  intro H hHT hO hS hok
  have off:∀ {b:Addr} {o:Obj},s₁.heap.get? b=some o->o≠PySem.W.tabObj #[]->(∀ n,o≠⟨.type "list",none,.seq vs.toArray n,#[]⟩)->H b=none:=fun {b o} e n1 n2=>by
   by_cases hbT:b=T
   ·rw [hbT,hT] at e; cases e; exact absurd rfl n1
   ·rcases hO b hbT with z | ⟨z,_⟩
    ·exact z
    ·rw [z,ha] at e; cases e; exact absurd rfl (n2 _)
  have noD:∀ {b:Addr} {o:Obj} {es:Array DictEntry} {ep:Nat},s₁.heap.get? b=some o->o.data = .dict es ep->H b=none:=fun {b o es ep} e d=>off e (fun z=>by rw [z] at d; cases d) fun n z=>by rw [z] at d; cases d
  have nsK:∀ {b:Addr} {m:Str->Option Value},s₁.heap.Ns b m->(ZcB s₁.heap H).Ns b m:=fun {b m} ⟨o,es,ep,e,d,r⟩=>⟨o,es,ep,ZaT e (noD e d),d,r⟩
  have hKb:K.In (ZcB s₁.heap H):=fun b o e=>ZaT (KX b o e) (by
   by_cases hbT:b=T
   ·rw [hbT,hKT] at e; cases e
   ·rcases hO b hbT with z | ⟨z,z2,_⟩
    ·exact z
    ·rw [z,z2] at e; cases e)
  have hM:Mod K mg (ZcB s₁.heap H):=⟨hKb,nsK hns,⟨mb,nsK hb,hbb⟩,let ⟨mc,h1,h2⟩:=hlim; ⟨mc,nsK h1,h2⟩⟩
  have hB:Za5 mg (ZcB s₁.heap H):=let ⟨bm,ob,b1,b2,b3,b4,b5,b6⟩:=hbm; ⟨bm,ob,b1,b2,ZaT b3 (off b3 (fun z=>by rw [z] at b4; cases b4) fun n z=>by rw [z] at b4; exact absurd b4 (Zjy (by decide))),b4,b5,b6⟩
  have hC':PySem.W.CodeHd (ZcB s₁.heap H) c T:=by
   obtain ⟨o,us,file,tf,flags,tg,inF,text,tt,e1,e2,r⟩:=hC
   exact ⟨o,us,file,tf,flags,tg,inF,text,tt,ZaT e1 (off e1 (fun z=>by rw [z] at e2; cases e2) fun n z=>by rw [z] at e2; exact absurd e2 (Zjy (by decide))),e2,r⟩
  have e0:Env0 P w K mg (ZcB s₁.heap H) callerA [] s₁ H:=⟨rfl,hM,fun b o e=>ZiW e,Nat.le_of_eq (ZgQ _ _),trivial,fun b hb=>absurd (show b∈([]:List Addr) from hb) (by simp),hok,.of_eq hg⟩
  refine codeAny_mono ((F _ hC' hB).run callerA [] s₁ H ⟨[.ref a],[]⟩ [.ref a] [.ref a] _ _ hr e0 (hbind s₁ (.ref a)) (.cons rfl .nil) (hsp H hHT hS)) fun r s' h=>?_
  cases r with
  | error e=>exact False.elim h
  | ok fl =>
   cases fl with
   | next=>exact False.elim h
   | brk=>exact False.elim h
   | cont=>exact False.elim h
   | ret u =>
    obtain ⟨v,H',os,bare,un,hok',r',q⟩:=h
    have q':v = .bl true:=q
    subst q'
    obtain rfl:u=Value.bool true:=r'
    have grown:∃ ps,s'.heap.get? T=some (PySem.W.tabObj ps):=by
     obtain ⟨more,z⟩:=un.tbls T _ hHT
     obtain ⟨ps,e,_⟩:=hok' T _ z
     exact ⟨ps,e⟩
    have keep:∀ b o,b≠T->s₁.heap.get? b=some o->s'.heap.get? b=some o:=fun b o nb e=>by
     rcases hO b nb with z | ⟨z0,_,xs,z⟩
     ·exact un.keep b o e z (by intro z; exact absurd (show b∈([]:List Addr) from z) (by simp)) (by simp)
     ·obtain ⟨e2,_⟩:=hok' b _ (un.frzs b _ _ z)
      rw [z0,ha] at e; cases e
      exact e2
    refine ⟨rfl,⟨fun b o e=>?_,fun b o e=>?_⟩,os,bare⟩
    ·by_cases hbT:b=T
     ·subst hbT
      rw [hT] at e; cases e
      obtain ⟨ps,hp⟩:=grown
      exact .inr (.inl ⟨(hC.tab hT).isCodeTable,rfl,#[],ps,rfl,by rw [Array.empty_append]; exact hp⟩)
     ·exact .inl (keep b o hbT e)
    ·by_cases hbT:b=T
     ·rw [hbT]
      obtain ⟨ps,hp⟩:=grown
      exact ⟨_,hp⟩
     ·exact ⟨o,keep b o hbT e⟩
 have tok:∀ H:Hp,ObjOk P w H s₁.heap T (Zat qual):=fun H=>⟨#[],hT,trivial,fun pos cv z=>by cases z⟩
 cases hk:K.lookup a with
 | some o =>
  have e:=KX a o hk
  rw [ha] at e
  cases e
  refine core (fun b=>if b=T then some (Zat qual) else none) (if_pos rfl) (fun b nb=>.inl (if_neg nb)) (.inr ⟨_,vs.toArray,_,hk,rfl,rfl,rfl,by rw [List.size_toArray,lenV]; exact hl,by simpa using rv⟩) fun b u z=>?_
  by_cases hbT:b=T
  ·have z':=(if_pos hbT).symm.trans z
   cases z'
   rw [hbT]
   exact tok _
  ·have z':=(if_neg hbT).symm.trans z
   cases z'
 | none =>
  refine core (fun b=>if b=T then some (Zat qual) else if b=a then some (.frz { cls:=.type "list",data:=.seq vs.toArray } (.lst (ns.map V.int))) else none) (if_pos rfl) (fun b nb=>?_) (.inl (.inr ⟨{ cls:=.type "list",data:=.seq vs.toArray },(if_neg hTa).trans (if_pos rfl)⟩)) fun b u z=>?_
  ·by_cases hb:b=a
   ·exact .inr ⟨hb,hk,_,(if_neg nb).trans (if_pos hb)⟩
   ·exact .inl ((if_neg nb).trans (if_neg hb))
  ·by_cases hbT:b=T
   ·have z':=(if_pos hbT).symm.trans z
    cases z'
    rw [hbT]
    exact tok _
   ·by_cases hb:b=a
    ·have z':=((if_neg hbT).trans (if_pos hb)).symm.trans z
     cases z'
     subst hb
     exact ⟨ha,by rw [List.length_map]; exact hl,vs,_,rv,ha⟩
    ·have z':=((if_neg hbT).trans (if_neg hb)).symm.trans z
     cases z'
theorem walk_ofT {l:PySem.W.OpenLaw} {n k:Nat} {q:Program} {loose:List Str} {XP:(Str->Option Value)->Heap->Prop} {YP:World->Heap->Prop} {d d2:DefRec} {K:Params->PySem.W.Frag} {sp:PySem.W.Frag->Addr->Sp} {x y qual:Str}
  (hn:l.most=some n) (hn2:n<=sizeLine) (hdf:d.params.defaults=[]) (hr:Room k callerA) (hrec:(recsOf q).find? (fun e=>e.name==y)=some d2)
  (hY:∀ (w:World) (h:Heap),YP w h->(K w.params).In h)
  (F:∀ (w:World) (mg:Str->Option Value) (fa:Addr) (h:Heap),(K w.params).In h->h.Ns mainGlobals mg->mg d.name=some (.ref fa) ->
   ∃ (fd:FuncData) (c T:Addr),(∀ (s:Shared) (u:Value),BindsTo s fd ⟨[u],[]⟩ [(x,u)])/\PySem.W.noTabs (K w.params)=true/\PySem.W.tabIn (K w.params) y=some (c,T) /\
    ∀ base:Heap,PySem.W.CodeHd base c T->Za5 mg base->FnOk l.prog w (K w.params) mg base CX0 k fa fd [x] (sp (K w.params) T))
  (hsp:∀ (w:World) (H:Hp) (a T:Addr) (ns:List Int),ns.length<=n->H T=some (Zat qual)->SqL (K w.params) H a (ns.map V.int)->sp (K w.params) T [.ref a] H (fun v _=>v = .bl true) fun _ _ _=>False) :
  PySem.W.WalkO q loose XP YP l.row.toRowW d [] (fun f vs=>PySem.call f vs):=by
 refine Att.attach_call hn hdf fun w s₀ s₁ mg mb fa o pm cd doc a vs ns G Y ho hd hcd hmg hobj hints hlen hg=>?_
 have KX:=hY w _ Y
 obtain ⟨fd,c,T,hb,hnt,ht,hF⟩:=F w mg fa _ KX G.T.g hmg
 obtain ⟨hC,hT⟩:=PySem.W.tab_of G.T KX hrec ht
 exact ZgL KX G.T.g G.T.b G.T.builtins G.T.nolimit G.T.bmain hg hC hT hnt hobj hints (Nat.le_trans hlen hn2) hr hF hb fun H h1 h2=>hsp w H a T ns hlen h1 h2
end L2
namespace L2
open PySem PySem.Spec PyProof.Rows
noncomputable def SqS (K:PySem.W.Frag) (H:Hp) (a:Addr) (xs:List V):Prop:=SqL K H a xs\/SqT K H a xs
theorem Same.seqS {K:PySem.W.Frag} {H H':Hp} {a:Addr} {xs:List V} (e:Same H H') (h:SqS K H a xs):SqS K H' a xs:=h.elim (fun z=>.inl (e.seq z)) fun z=>.inr (e.seqT z)
noncomputable def Zll (K:PySem.W.Frag):R2:=fun x y H Q=>∃ p xs i v,x = .ref p/\y = .int i/\SqS K H p xs/\atI xs i=some v/\Q v H
theorem ZdF {X:Cx} (K:PySem.W.Frag) (hK:X.K=K:=by rfl):IxR X (Zll K):=by
 subst hK
 intro value slice pins s σ H x y v u Q I rx ry h hs
 obtain ⟨p,xs,i,z,e1,e2,hq,he,q⟩:=h
 rcases hq with hq | hq
 ·exact YK value slice pins s σ H x y v u Q I rx ry ⟨p,xs,i,z,e1,e2,hq,he,q⟩ hs
 ·exact ZI value slice pins s σ H x y v u Q I rx ry ⟨p,xs,i,z,e1,e2,hq,he,q⟩ hs
end L2
namespace My
open PySem L2
section
variable {P:Program} {w:World} {K:PySem.W.Frag} {mg:Str->Option Value} {base:Heap}
theorem scLeft:Zt ["begun","row","column","standing"] ["begun","row","column"] (Zf ZaJ):=⟨rfl,rfl,rfl,by decide +kernel,rfl,by decide +kernel,by decide +kernel⟩
theorem ZiT {f:Addr} {fd:FuncData} (F:Fun K "left" "left" ZaJ f fd) (T:Blt mg):FnOk P w K mg base CX0 1 f fd ["begun","row","column"] (JZ K):=by
 refine F.ok scLeft (fun vs H Q E h=>?_) (fun cdv A outer s H vs Q E hr h=>?_)
 ·obtain ⟨a,n,B,r,c,rfl,_⟩:=h
  rfl
 ·obtain ⟨a,n,B,r,c,rfl,G,S,hn,hrn,hcn,k⟩:=h
  refine ⟨_,Ze (Zq (i:=3) scLeft.nd rfl (Or.inr rfl) (Zl Zb5 (JB Za1 rfl T.list Zf9 (Za (Zz ZI (pv 0) (pv 1) (fun _ _=>rfl)) Zc))
    (Y7 ["other","column"] [none,some 2] rfl rfl (Zaq K (pv 0)) (fun _ _ _ _ _=>Jo 0) (fun _ _ _ _ _=>YH) (fun _ _ _ _ _=>Zz (ZT K) (pv 0) (pv 1) (fun _ _=>rfl)))))
   (Zg (Zv (Y7 ["thing","standing"] [none,some 3] rfl rfl (ZB rfl T.range (Za (Zw (Zu K) rfl T.len PySem.boot_len (Za (pv 0) Zc)) Zc)) (fun _ _ _ _ _=>Jo 0)
    (fun _ _ _ _ _=>YG (Zx (Yt K) (pv 0) (pv 1) rfl)) (fun _ _ _ _ _=>pv 0)))),?_⟩
  obtain ⟨ps,hx,hR⟩:=G
  have hxl:(ps.map V.ref).length=n:=by rw [List.length_map,hR.length,S.len]
  obtain ⟨pr,hpr,hrow⟩:=Paired.getR hR (S.rowAt hrn).1
  have hpr':(ps.map V.ref)[r]? = some (.ref pr):=by rw [List.getElem?_map,hpr]; rfl
  refine ⟨_,rfl,_,rfl,a,_,(r:Int),.ref pr,rfl,rfl,hx,ZF hpr',pr,Zj B r,rfl,.inr hrow,fun l1 hl1=>?_⟩
  have sm1:Same H (upd H l1 (.lst (Zj B r))):=Same.new hl1
  refine ⟨_,rfl,a,rfl,⟨_,sm1.seqT hx⟩,fun l2 hl2=>ZO (fun i=>some (at2 B i c)) (fun σ=>∃ v,σ=[v,some (.int (c:Int))]) Zan (by rw [hxl]; exact Zs (by exact Om.b1 ‹_› rfl)) hl2 (fun H' sm=>(sm1.trans sm).seqT hx) ⟨none,rfl⟩ ?_ ?_⟩
  ·rintro i x σ H' R hi ⟨v,rfl⟩ sm kk
   obtain ⟨p,rfl,hin,hp⟩:=JE hR S hi
   exact ⟨_,rfl,_,rfl,p,Zj B i,(c:Int),at2 B i c,rfl,rfl,(sm1.trans sm).seqT hp,ZF (S.entAt hin hcn).1,kk _ _ ⟨_,rfl⟩ (Same.refl _)⟩
  ·intro H2 sm2 hl2'
   rw [Z2,hxl] at hl2'
   have hn63:(n:Int)<2 ^ 62:=by exact Om.c1 ‹_› rfl
   refine ⟨l1,l2,Zj B r,_,rfl,rfl,sm2 _ _ Zd,hl2',?_,fun l3 hl3=>?_⟩
   ·rw [(S.rowAt hrn).2.1,List.length_map,List.length_range]
    exact Zs (by exact Om.k104 hn hxl)
   have smA:Same H (upd H2 l3 (.lst (Z4 n B r c))):=(sm1.trans sm2).upd_new ((sm1.trans sm2).free hl3)
   have sm3:Same H2 (upd H2 l3 (.lst (Z4 n B r c))):=Same.new hl3
   refine ⟨_,rfl,a,_,rfl,.inr (smA.seqT hx),n,by rw [hxl],by exact Om.c2,hn63,fun l4 hl4=>?_⟩
   rw [Int.toNat_natCast]
   refine ZO (fun t:Nat=>if (!inV (.int (t:Int)) (Z4 n B r c))=true then some (.int (t:Int)) else none) (fun σ=>∃ v,σ=[v,some (.ref l3)]) Yj (by rw [ZR]; exact Zs (by exact Om.b1 ‹_› rfl)) hl4 (fun H' sm=>trivial) ⟨none,rfl⟩ ?_ ?_
   ·rintro i x σ H' R hi ⟨v,rfl⟩ sm kk
    obtain ⟨hin,rfl⟩:=YT hi
    refine ⟨_,rfl,_,rfl,l3,Z4 n B r c,rfl,.inl (SqL.of (sm _ _ Zd)),rfl,ZbS S hrn hcn,_,rfl,?_⟩
    have kk':=kk [some (.int (i:Int)),some (.ref l3)] H' ⟨_,rfl⟩ (Same.refl _)
    refine YD (fun hc=>?_) (fun hc=>?_)
    ·have hc':(!inV (.int (i:Int)) (Z4 n B r c))=true:=hc
     rw [if_pos hc'] at kk'
     exact ⟨_,rfl,kk'⟩
    ·have hc':¬ (!inV (.int (i:Int)) (Z4 n B r c))=true:=hc
     rw [if_neg hc'] at kk'
     exact kk'
   ·intro H4 sm4 hl4'
    rw [ZR] at hl4'
    exact k l4 H4 (smA.free hl4) (smA.trans sm4) hl4'
end
noncomputable def Ya (n:Nat) (p:Nat->Bool):List Nat:=(List.range n).filter p
noncomputable def ZP (l:List Nat):List V:=l.map fun t:Nat=>V.int (t:Int)
theorem JF (n:Nat) (p:Nat->Bool):(List.range n).filterMap (fun t:Nat=>if p t=true then some (V.int (t:Int)) else none)=ZP (Ya n p):=by
 unfold ZP Ya
 induction List.range n with
 | nil=>rfl
 | cons j l ih =>
  rw [List.filterMap_cons,List.filter_cons]
  cases h:p j
  ·simp only [Bool.false_eq_true,↓reduceIte]
   exact ih
  ·simp only [↓reduceIte,List.map_cons]
   rw [ih]
noncomputable def Z1 (n:Nat) (B:List (List V)) (r c:Nat):List Nat:=Ya n fun t=>!inV (.int (t:Int)) (Z4 n B r c)
theorem ZbK (n:Nat) (B:List (List V)) (r c:Nat):Zbv n B r c=ZP (Z1 n B r c):=JF n fun t=>!inV (.int (t:Int)) (Z4 n B r c)
noncomputable def ZaS (n:Nat) (xs:List V):List Nat:=Ya n fun t=>!inV (.int (t:Int)) xs
noncomputable def plN (n:Nat) (xs:List V) (Cr:List (List V)) (t:Nat):List Nat:=Ya n fun p=>decide (xs.getD p .non = .non) && !inV (.int (t:Int)) (Zj Cr p)
noncomputable def ZC (n:Nat) (B:List (List V)):List (List V):=(List.range n).map fun c=>(List.range n).map fun r=>at2 B r c
theorem Yh {n:Nat} {B:List (List V)} {r c:Nat} (hr:r<n) (hc:c<n):at2 (ZC n B) c r=at2 B r c:=by
 show ((((List.range n).map fun c=>(List.range n).map fun r=>at2 B r c)[c]?).getD []).getD r .non=_
 rw [List.getElem?_map,List.getElem?_range hc]
 show (((List.range n).map fun r=>at2 B r c).getD r .non)=_
 rw [List.getD_eq_getElem?_getD,List.getElem?_map,List.getElem?_range hr]
 rfl
theorem Zao {n:Nat} {B:List (List V)} (S:Sq n B):Sq n (ZC n B):=by
 refine ⟨by simp [ZC],fun row h=>?_,fun row h v hv=>?_⟩
 ·obtain ⟨c,_,rfl⟩:=List.mem_map.mp h
  simp
 ·obtain ⟨c,hc,rfl⟩:=List.mem_map.mp h
  obtain ⟨r,hr,rfl⟩:=List.mem_map.mp hv
  exact (S.entAt (List.mem_range.mp hr) (List.mem_range.mp hc)).2
noncomputable def GridS (K:PySem.W.Frag) (H:Hp) (a:Addr) (B:List (List V)):Prop:=∃ ps:List Addr,SqS K H a (ps.map V.ref)/\Paired (fun p row=>SqS K H p row) ps B
theorem GridS.same {K:PySem.W.Frag} {H H':Hp} {a:Addr} {B:List (List V)} (g:GridS K H a B) (e:Same H H'):GridS K H' a B :=
 let ⟨ps,h,r⟩:=g
 ⟨ps,e.seqS h,Paired.mapP r fun _ _ q=>e.seqS q⟩
theorem Zh5 {K:PySem.W.Frag} {H:Hp} {a:Addr} {B:List (List V)} (g:Grid K H a B):GridS K H a B :=
 let ⟨ps,h,r⟩:=g
 ⟨ps,.inr h,Paired.mapP r fun _ _ q=>.inr q⟩
theorem GridS.row {K:PySem.W.Frag} {H:Hp} {a:Addr} {n:Nat} {B:List (List V)} (g:GridS K H a B) (S:Sq n B) {r:Nat} (hr:r<n):∃ (ps:List Addr) (p:Addr),SqS K H a (ps.map V.ref)/\(ps.map V.ref).length=n/\atI (ps.map V.ref) (r:Int)=some (.ref p)/\SqS K H p (Zj B r):=by
 obtain ⟨ps,h,hR⟩:=g
 obtain ⟨p,e1,e2⟩:=Paired.getR hR (S.rowAt hr).1
 exact ⟨ps,p,h,by rw [List.length_map,hR.length,S.len],ZF (by rw [List.getElem?_map,e1]; rfl),e2⟩
theorem Jq {n:Nat} {B:List (List V)} (S:Sq n B) {r:Nat} (hr:r<n):(Zj B r).all ZK=true:=List.all_eq_true.mpr fun v hv=>Zcj (S.ent _ (List.mem_of_getElem? (S.rowAt hr).1) v hv)
inductive Zdh (K:PySem.W.Frag) (vs:List V) (H:Hp) (Q:VK):Prop where
 | mk (a:Addr) (n c:Nat) (B:List (List V)) (_:vs=[.ref a,.int (c:Int)]) (_:Grid K H a B) (_:Sq n B) (_:n<=6) (_:c<n) (_:∀ l H',Same H H'->H l=none->H' l=some (.lst ((List.range n).map fun r=>at2 B r c))->Q (.ref l) H'):Zdh K vs H Q
noncomputable def ZdZ (K:PySem.W.Frag):Sp:=fun vs H Q _=>Zdh K vs H Q
inductive Zcv (K:PySem.W.Frag) (vs:List V) (H:Hp) (Q:VK):Prop where
 | mk (a:Addr) (n:Nat) (B:List (List V)) (_:vs=[.ref a]) (_:Grid K H a B) (_:Sq n B) (_:n<=6) (_:∀ l H',Same H H'->GridS K H' l (ZC n B)->Q (.ref l) H'):Zcv K vs H Q
noncomputable def ZcM (K:PySem.W.Frag):Sp:=fun vs H Q _=>Zcv K vs H Q
inductive Zdd (K:PySem.W.Frag) (vs:List V) (H:Hp) (Q:VK):Prop where
 | mk (a:Addr) (n:Nat) (xs:List V) (_:vs=[.ref a,.int (n:Int)]) (_:SqS K H a xs) (_:xs.all ZK=true) (_:n<=6) (_:∀ l H',Same H H'->H l=none->H' l=some (.lst (ZP (ZaS n xs)))->Q (.ref l) H'):Zdd K vs H Q
noncomputable def ZdY (K:PySem.W.Frag):Sp:=fun vs H Q _=>Zdd K vs H Q
inductive Zdc (K:PySem.W.Frag) (vs:List V) (H:Hp) (Q:VK):Prop where
 | mk (a c:Addr) (n r t:Nat) (L Cr:List (List V)) (_:vs=[.ref a,.ref c,.int (t:Int)]) (_:SqS K H a (Zj L r)) (_:GridS K H c Cr) (_:Sq n L) (_:Sq n Cr) (_:r<n) (_:n<=6) (_:∀ l H',Same H H'->H l=none->H' l=some (.lst (ZP (plN n (Zj L r) Cr t)))->Q (.ref l) H'):Zdc K vs H Q
noncomputable def ZdX (K:PySem.W.Frag):Sp:=fun vs H Q _=>Zdc K vs H Q
section
variable {P:Program} {w:World} {K:PySem.W.Frag} {mg:Str->Option Value} {base:Heap}
theorem Zho:Zt ["rows","column"] ["rows","column"] (Zf Je):=⟨rfl,rfl,rfl,by decide +kernel,rfl,by decide +kernel,by decide +kernel⟩
theorem ZgD {f:Addr} {fd:FuncData} (F:Fun K "column_of" "column_of" Je f fd):FnOk P w K mg base CX0 1 f fd ["rows","column"] (ZdZ K):=by
 refine F.ok Zho (fun vs H Q E h=>?_) (fun cdv A outer s H vs Q E hr h=>?_)
 ·obtain ⟨_,_,_,_,rfl,_⟩:=h
  rfl
 ·obtain ⟨a,n,c,B,rfl,G,S,h8,hc,q⟩:=h
  obtain ⟨ps,hx,hR⟩:=id G
  have hxl:(ps.map V.ref).length=n:=by rw [List.length_map,hR.length,S.len]
  refine ⟨_,Zg (Zv (Y7 ["row","column"] [none,some 1] rfl rfl (Zaq K (pv 0)) (fun _ _ _ _ _=>Jo 0) (fun _ _ _ _ _=>YH) (fun _ _ _ _ _=>Zz (ZT K) (pv 0) (pv 1) (fun _ _=>rfl)))),?_⟩
  refine ⟨_,rfl,a,rfl,⟨_,hx⟩,fun l2 hl2=>ZO (fun i=>some (at2 B i c)) (fun σ=>∃ v,σ=[v,some (.int (c:Int))]) Zan (by rw [hxl]; exact Zs (by exact Om.b1 ‹_› rfl)) hl2 (fun H' sm=>sm.seqT hx) ⟨none,rfl⟩ ?_ ?_⟩
  ·rintro i x σ H' R hi ⟨v,rfl⟩ sm kk
   obtain ⟨p,rfl,hin,hp⟩:=JE hR S hi
   exact ⟨_,rfl,_,rfl,p,Zj B i,(c:Int),at2 B i c,rfl,rfl,sm.seqT hp,ZF (S.entAt hin hc).1,kk _ _ ⟨_,rfl⟩ (Same.refl _)⟩
  ·intro H2 sm2 hl2'
   rw [Z2,hxl] at hl2'
   exact q l2 H2 sm2 hl2 hl2'
theorem Zgq:Zt ["begun"] ["begun"] (Zf Y0):=⟨rfl,rfl,rfl,by decide +kernel,rfl,by decide +kernel,by decide +kernel⟩
inductive ZeR (H:Hp) (a:Addr) (n:Nat) (B:List (List V)) (l:Addr) (i:Nat) (ys:List V) (σ:St) (H2:Hp):Prop where
 | mk (v:Option V) (qs:List Addr) (_:σ=[v,some (.ref a)]) (_:ys=qs.map V.ref) (_:Same H H2) (_:H2 l=some (.lst ys)) (_:Paired (fun q (x:List V)=>H2 q=some (.lst x)/\q≠l) qs ((ZC n B).take i)):ZeR H a n B l i ys σ H2
theorem Zfd {f fC:Addr} {fd dC:FuncData} (F:Fun K "columns_of" "columns_of" Y0 f fd) (T:Blt mg) (DC:Dfn K mg "column_of" Je ["rows","column"] fC dC):FnOk P w K mg base CX0 2 f fd ["begun"] (ZcM K):=by
 have GC:FnOk P w K mg base CX0 1 fC dC ["rows","column"] (ZdZ K):=ZgD DC.F
 refine F.ok Zgq (fun vs H Q E h=>?_) (fun cdv A outer s H vs Q E hr h=>?_)
 ·obtain ⟨_,_,_,rfl,_⟩:=h
  rfl
 ·obtain ⟨a,n,B,rfl,G,S,h8,q⟩:=h
  obtain ⟨ps,hx,hR⟩:=id G
  have hxl:(ps.map V.ref).length=n:=by rw [List.length_map,hR.length,S.len]
  refine ⟨_,Zg (Zv (Y7 ["column","begun"] [none,some 0] rfl rfl (ZB rfl T.range (Za (Zw (Zu K) rfl T.len PySem.boot_len (Za (pv 0) Zc)) Zc)) (fun _ _ _ _ _=>Jo 0) (fun _ _ _ _ _=>YH) (fun _ _ _ _ _=>Zk GC hr rfl DC.m DC.F.kp DC.b .nil ZA (Za (pv 1) (Za (pv 0) Zc))))),?_⟩
  refine ⟨_,rfl,a,_,rfl,.inr hx,(n:Int),by rw [hxl],by exact Om.c2,by exact Om.c1 ‹_› rfl,fun l hl=>?_⟩
  rw [Int.toNat_natCast]
  refine JP (Yj (n:=n)) (ZeR H a n B l)
   ⟨none,[],rfl,rfl,Same.new hl,Zd,.nil⟩ (fun i ys σ H2 zz0=> by obtain ⟨_,_,_,_,s2,h2,_⟩ := zz0; exact ⟨trivial,h2⟩) ?_ ?_
  ·rintro i x ys σ H2 hx' ⟨v,qs,rfl,rfl,s2,h2,hQ⟩
   obtain ⟨hi,rfl⟩:=YT hx'
   refine ⟨_,rfl,_,rfl,a,n,i,B,rfl,G.same s2,S,h8,hi,fun lc H3 s3 hlc hc3=>?_⟩
   have hla:lc≠l:=fun e=>by rw [<- e,hlc] at h2; cases h2
   have et:(ZC n B).take (i+1)=(ZC n B).take i++[(List.range n).map fun r=>at2 B r i]:=by
    have hi':i<(ZC n B).length:=by simp [ZC,hi]
    rw [List.take_add_one,List.getElem?_eq_getElem hi']
    have:(ZC n B)[i]=(List.range n).map fun r=>at2 B r i:=by simp [ZC]
    rw [this]
    rfl
   refine ⟨s3 _ _ h2,by rw [List.length_map,hQ.length,List.length_take]; exact ZD (by exact Om.k103 h8 hxl hi),_,qs++[lc],rfl,by rw [List.map_append]; rfl,fun b u e=>?_,Zd,?_⟩
   ·rw [Zh (Zm e hl)]
    exact s3 _ _ (s2 _ _ e)
   ·rw [et]
    refine Paired.snoc (Paired.mapP hQ fun b x e=>⟨?_,e.2⟩) ⟨by rw [Zh hla]; exact hc3,hla⟩
    rw [Zh e.2]
    exact s3 _ _ e.1
  ·rintro ys σ H2 ⟨v,qs,rfl,rfl,s2,h2,hQ⟩
   rw [ZR,List.take_of_length_le (by simp [ZC])] at hQ
   exact q l H2 s2 ⟨qs,.inl (SqL.of h2),Paired.mapP hQ fun _ _ z=>.inl (SqL.of z.1)⟩
theorem Zhn:Zt ["line","size"] ["line","size"] (Zf Jc):=⟨rfl,rfl,rfl,by decide +kernel,rfl,by decide +kernel,by decide +kernel⟩
theorem ZgA {f:Addr} {fd:FuncData} (F:Fun K "lacked" "lacked" Jc f fd) (T:Blt mg):FnOk P w K mg base CX0 1 f fd ["line","size"] (ZdY K):=by
 refine F.ok Zhn (fun vs H Q E h=>?_) (fun cdv A outer s H vs Q E hr h=>?_)
 ·obtain ⟨_,_,_,rfl,_⟩:=h
  rfl
 ·obtain ⟨a,n,xs,rfl,hS,hfl,h8,q⟩:=h
  refine ⟨_,Zg (Zv (Y7 ["thing","line"] [none,some 0] rfl rfl (ZB rfl T.range (Za (pv 1) Zc)) (fun _ _ _ _ _=>Jo 0) (fun _ _ _ _ _=>YG (Zx (Yt K) (pv 0) (pv 1) rfl)) (fun _ _ _ _ _=>pv 0))),?_⟩
  refine ⟨_,rfl,(n:Int),rfl,by exact Om.c2,by exact Om.c1 ‹_› rfl,fun l hl=>?_⟩
  rw [Int.toNat_natCast]
  refine ZO (fun j:Nat=>if (!inV (.int (j:Int)) xs)=true then some (.int (j:Int)) else none) (fun σ=>∃ v,σ=[v,some (.ref a)]) (Yj (n:=n)) (by rw [ZR]; exact Zs (by exact Om.b1 ‹_› rfl)) hl (fun _ _=>trivial) ⟨none,rfl⟩ ?_ ?_
  ·rintro j x σ H' R hj ⟨v,rfl⟩ sm' kk
   obtain ⟨hjn,rfl⟩:=YT hj
   refine ⟨_,rfl,_,rfl,a,_,rfl,sm'.seqS hS,rfl,hfl,_,rfl,?_⟩
   show if (!inV (V.int ((j:Nat):Int)) xs)=true then _ else _
   have kk':=fun v'=>kk [v',some (.ref a)] H' ⟨v',rfl⟩ (Same.refl _)
   cases e:inV (V.int ((j:Nat):Int)) xs with
   | true =>
    rw [if_neg (by simp [e])] at kk'
    exact Yx (kk' _)
   | false =>
    rw [if_pos (by simp [e])] at kk'
    exact Y5 ⟨_,rfl,kk' _⟩
  ·intro H1 s1 hl1
   rw [ZR,JF n fun t=>!inV (.int (t:Int)) xs] at hl1
   exact q l H1 s1 hl hl1
theorem Zhm:Zt ["line","crossing","thing"] ["line","crossing","thing"] (Zf Jb):=⟨rfl,rfl,rfl,by decide +kernel,rfl,by decide +kernel,by decide +kernel⟩
theorem Zgz {f:Addr} {fd:FuncData} (F:Fun K "places_left" "places_left" Jb f fd) (T:Blt mg):FnOk P w K mg base CX0 1 f fd ["line","crossing","thing"] (ZdX K):=by
 refine F.ok Zhm (fun vs H Q E h=>?_) (fun cdv A outer s H vs Q E hr h=>?_)
 ·obtain ⟨_,_,_,_,_,_,_,rfl,_⟩:=h
  rfl
 ·obtain ⟨a,c,n,r,t,L,Cr,rfl,hS,hC,S,SC,hrn,h8,q⟩:=h
  have hrl:=(S.rowAt hrn).2.1
  refine ⟨_,Zg (Zv (Y7 ["place","line","thing","crossing"] [none,some 0,some 2,some 1] rfl rfl (ZB rfl T.range (Za (Zw (Zu K) rfl T.len PySem.boot_len (Za (pv 0) Zc)) Zc)) (fun _ _ _ _ _=>Jo 0) (fun _ _ _ _ _=>YG (PW.pt (Zac (Jm (Zaf (Zz (ZdF K) (pv 1) (pv 0) (fun _ _=>rfl)))) (Ju (Zx (Yt K) (pv 2) (Zz (ZdF K) (pv 3) (pv 0) (fun _ _=>rfl)) rfl))))) (fun _ _ _ _ _=>pv 0))),?_⟩
  refine ⟨_,rfl,a,_,rfl,hS,(n:Int),by rw [hrl],by exact Om.c2,by exact Om.c1 ‹_› rfl,fun l hl=>?_⟩
  rw [Int.toNat_natCast]
  refine ZO (fun j:Nat=>if (decide ((Zj L r).getD j .non = .non) && !inV (.int (t:Int)) (Zj Cr j))=true then some (.int (j:Int)) else none) (fun σ=>∃ v,σ=[v,some (.ref a),some (.int (t:Int)),some (.ref c)]) (Yj (n:=n)) (by rw [ZR]; exact Zs (by exact Om.b1 ‹_› rfl)) hl (fun _ _=>trivial) ⟨none,rfl⟩ ?_ ?_
  ·rintro j x σ H' R hj ⟨v,rfl⟩ sm' kk
   obtain ⟨hjn,rfl⟩:=YT hj
   obtain ⟨ps,pj,hps,_,hat2,hpj⟩:=(hC.same sm').row SC hjn
   have kk':=fun v'=>kk [v',some (.ref a),some (.int (t:Int)),some (.ref c)] H' ⟨v',rfl⟩ (Same.refl _)
   have hat:atI (Zj L r) (j:Int)=some ((Zj L r).getD j .non):=ZF (S.entAt hrn hjn).1
   refine ⟨_,rfl,_,rfl,a,_,_,_,rfl,rfl,sm'.seqS hS,hat,?_⟩
   refine ⟨_,rfl,YD (fun hc=>?_) (fun hc=>Yx ?_)⟩
   ·refine ⟨_,rfl,_,rfl,_,rfl,c,_,_,_,rfl,rfl,hps,hat2,pj,_,rfl,hpj,rfl,Jq SC hjn,_,rfl,?_⟩
    show if (!inV (V.int (t:Int)) (Zj Cr j))=true then _ else _
    cases e:inV (V.int (t:Int)) (Zj Cr j) with
    | true =>
     rw [if_neg (by simp [e])] at kk'
     exact Yx (kk' _)
    | false =>
     rw [if_pos (by rw [hc,e]; rfl)] at kk'
     exact Y5 ⟨_,rfl,kk' _⟩
   ·rw [if_neg (by intro z; rw [Bool.and_eq_true] at z; exact hc z.1)] at kk'
    exact kk' _
  ·intro H1 s1 hl1
   rw [ZR,JF n fun p=>decide ((Zj L r).getD p .non = .non) && !inV (.int (t:Int)) (Zj Cr p)] at hl1
   exact q l H1 s1 hl hl1
end
end My
namespace My
open PySem L2
structure Ch where
 nm:Str
 a:Nat
 b:Nat
 xs:List Nat
noncomputable def ChX (N:Addr->Prop) (H:Hp) (p:Addr) (c:Ch):Prop:=∃ k m,N m/\H p=some (.tup [.ref k,.ref m])/\H k=some (.tup [.str c.nm,.int (c.a:Int),.int (c.b:Int)])/\H m=some (.lst (ZP c.xs))
theorem ChX.same {N:Addr->Prop} {H H':Hp} {p:Addr} {c:Ch} (x:ChX N H p c) (e:Same H H'):ChX N H' p c:=let ⟨k,m,n,h1,h2,h3⟩:=x; ⟨k,m,n,e _ _ h1,e _ _ h2,e _ _ h3⟩
theorem ChX.imp {N M:Addr->Prop} {H:Hp} {p:Addr} {c:Ch} (x:ChX N H p c) (e:∀ m,N m->M m):ChX M H p c:=let ⟨k,m,n,h⟩:=x; ⟨k,m,e m n,h⟩
theorem ChX.put {N:Addr->Prop} {H:Hp} {p l:Addr} {c:Ch} {ys zs:List V} (x:ChX N H p c) (hN:∀ m,N m->m≠l) (hl:H l=some (.lst ys)):ChX N (upd H l (.lst zs)) p c :=
 let ⟨k,m,n,h1,h2,h3⟩:=x
 ⟨k,m,n,by rw [Zh (Yi h1 hl (by intro z; cases z))]; exact h1,by rw [Zh (Yi h2 hl (by intro z; cases z))]; exact h2,by rw [Zh (hN m n)]; exact h3⟩
noncomputable def ChL (N:Addr->Prop) (H:Hp) (l:Addr) (cs:List Ch):Prop:=∃ ps:List Addr,H l=some (.lst (ps.map V.ref))/\Paired (ChX N H) ps cs
theorem ChL.same {N:Addr->Prop} {H H':Hp} {l:Addr} {cs:List Ch} (x:ChL N H l cs) (e:Same H H'):ChL N H' l cs:=let ⟨ps,h1,h2⟩:=x; ⟨ps,e _ _ h1,Paired.mapP h2 fun _ _ z=>z.same e⟩
theorem ZaZ {N:Addr->Prop} {H:Hp} {l p:Addr} {ps:List Addr} {cs:List Ch} {c:Ch} (hN:∀ m,N m->m≠l) (hl:H l=some (.lst (ps.map V.ref))) (hP:Paired (ChX N H) ps cs) (x:ChX N H p c) :
  (upd H l (.lst (ps.map V.ref++[.ref p]))) l=some (.lst ((ps++[p]).map V.ref))/\Paired (ChX N (upd H l (.lst (ps.map V.ref++[.ref p])))) (ps++[p]) (cs++[c]) :=
 ⟨by rw [Zd,List.map_append]; rfl,Paired.snoc (Paired.mapP hP fun _ _ z=>z.put hN hl) (x.put hN hl)⟩
theorem ZaW {α:Type} (f:Nat->List α) (k:Nat) (h:∀ i,(f i).length<=k):∀ n,((List.range n).flatMap f).length<=n*k
 | 0=>by simp
 | n+1=>by
  rw [List.range_succ,List.flatMap_append,List.length_append,Nat.succ_mul]
  have:=ZaW f k h n
  have h2:([n].flatMap f).length<=k:=by simpa using h n
  omega
theorem Zas {α:Type} (f:Nat->List α) (n:Nat):(List.range (n+1)).flatMap f=(List.range n).flatMap f++f n:=by
 rw [List.range_succ,List.flatMap_append]
 simp
theorem ZW (n:Nat) (p:Nat->Bool):(Ya n p).length<=n:=by
 unfold Ya
 exact Nat.le_trans (List.length_filter_le _ _) (by simp)
theorem Zab (n:Nat) (p:Nat->Bool):Ya (n+1) p=Ya n p++(if p n=true then [n] else []):=by
 unfold Ya
 rw [List.range_succ,List.filter_append]
 cases h:p n <;> simp [h]
theorem mem_rangeF {n t:Nat} {p:Nat->Bool}:t∈Ya n p↔t<n/\p t=true:=by
 unfold Ya
 rw [List.mem_filter,List.mem_range]
noncomputable def YW (n:Nat) (B:List (List V)) (r j:Nat):List Ch:=(Ya j fun c=>decide (at2 B r c = .non)).map fun c=>⟨"cell",r,c,Z1 n B r c⟩
noncomputable def YC (n:Nat) (B:List (List V)) (i:Nat):List Ch:=(List.range i).flatMap fun r=>YW n B r n
theorem Zbz (n:Nat) (B:List (List V)) (r j:Nat):(YW n B r j).length<=j:=by
 unfold YW
 rw [List.length_map]
 exact ZW _ _
theorem JQ (n:Nat) (B:List (List V)) (i:Nat):(YC n B i).length<=i*n:=ZaW _ n (fun r=>Zbz n B r n) i
theorem Za0 (n:Nat) (B:List (List V)) (r j:Nat):YW n B r (j+1)=YW n B r j++(if at2 B r j = .non then [⟨"cell",r,j,Z1 n B r j⟩] else []):=by
 unfold YW
 rw [Zab,List.map_append]
 by_cases h:at2 B r j = .non <;> simp [h]
inductive ZeA (K:PySem.W.Frag) (vs:List V) (H:Hp) (Q:VK):Prop where
 | mk (a:Addr) (n:Nat) (B:List (List V)) (_:vs=[.ref a]) (_:Grid K H a B) (_:Sq n B) (_:n<=6) (_:∀ l H',Same H H'->H l=none->ChL (fun m=>H m=none) H' l (YC n B n)->Q (.ref l) H'):ZeA K vs H Q
noncomputable def ZfD (K:PySem.W.Frag):Sp:=fun vs H Q _=>ZeA K vs H Q
section
variable {P:Program} {w:World} {K:PySem.W.Frag} {mg:Str->Option Value} {base:Heap}
theorem scCells:Zt ["begun","found","row","column"] ["begun"] (Zf Z7):=⟨rfl,rfl,rfl,by decide +kernel,rfl,by decide +kernel,by decide +kernel⟩
inductive ZeQ (H:Hp) (a:Addr) (n:Nat) (B:List (List V)) (l:Addr) (i:Nat) (σ:St) (H2:Hp):Prop where
 | mk (v2 v3:Option V) (qs:List Addr) (_:σ=[some (.ref a),some (.ref l),v2,v3]) (_:Same H H2) (_:H2 l=some (.lst (qs.map V.ref))) (_:Paired (ChX (fun m=>H m=none/\m≠l) H2) qs (YC n B i)):ZeQ H a n B l i σ H2
inductive ZeP (H:Hp) (a:Addr) (n:Nat) (B:List (List V)) (l:Addr) (i:Nat) (j:Nat) (σ:St) (H3:Hp):Prop where
 | mk (v3:Option V) (qs:List Addr) (_:σ=[some (.ref a),some (.ref l),some (.int (i:Int)),v3]) (_:Same H H3) (_:H3 l=some (.lst (qs.map V.ref))) (_:Paired (ChX (fun m=>H m=none/\m≠l) H3) qs (YC n B i++YW n B i j)):ZeP H a n B l i j σ H3
theorem ZhO {f fL:Addr} {fd dL:FuncData} (F:Fun K "cell_choices" "cell_choices" Z7 f fd) (T:Blt mg) (DL:Dfn K mg "left" ZaJ ["begun","row","column"] fL dL):FnOk P w K mg base CX0 2 f fd ["begun"] (ZfD K):=by
 have GL:FnOk P w K mg base CX0 1 fL dL ["begun","row","column"] (JZ K):=ZiT DL.F T
 refine F.ok scCells (fun vs H Q E h=>?_) (fun cdv A outer s H vs Q E hr h=>?_)
 ·obtain ⟨_,_,_,rfl,_⟩:=h
  rfl
 ·obtain ⟨a,n,B,rfl,G,S,hn,q⟩:=h
  refine' ⟨_,Ze (Zq (i:=1) scCells.nd rfl (Or.inl rfl) (Yv Zc)) (Ze (Yf PassesOwn.never rfl ?r1 (ZG (i:=2) scCells.nd rfl (Or.inl rfl)) (Zg (Yf PassesOwn.never rfl ?r2 (ZG (i:=3) scCells.nd rfl (Or.inl rfl)) (Zg (ZZ ?t (Zg ?b) ZE))))) (Zg (Zv (pv 1)))),?rd⟩
  case r1=>exact ZB rfl T.range (Za (Zw (Zu K) rfl T.len PySem.boot_len (Za (pv 0) Zc)) Zc)
  case r2=>exact ZB rfl T.range (Za (Zw (Zu K) rfl T.len PySem.boot_len (Za (pv 0) Zc)) Zc)
  case t=>exact Jm (Zaf (Zz ZI (Zz ZI (pv 0) (pv 2) (fun _ _=>rfl)) (pv 3) (fun _ _=>rfl)))
  case b=>exact Ys (JC PySem.F.plainAttrs_list PySem.F.slot_list_append PySem.F.type_list_append Z5 (pv 1) (Za (ZH (Za (ZH (Za Z0 (Za (pv 2) (Za (pv 3) Zc)))) (Za (Zk GL hr rfl DL.m DL.F.kp DL.b .nil ZA (Za (pv 0) (Za (pv 2) (Za (pv 3) Zc)))) Zc))) Zc))
  case rd =>
   obtain ⟨ps,hx,hR⟩:=id G
   have hxl:(ps.map V.ref).length=n:=by rw [List.length_map,hR.length,S.len]
   refine ⟨Nat.zero_le _,fun l hl=>?_⟩
   refine ⟨_,rfl,a,_,rfl,.inr ((Same.new hl).seqT hx),(n:Int),by rw [hxl],by exact Om.c2,by exact Om.c1 ‹_› rfl,?_⟩
   rw [Int.toNat_natCast]
   have hN:∀ m,(H m=none/\m≠l)->m≠l:=fun m z=>z.2
   refine ZU (lo:=0) (n:=n) (ZeQ H a n B l)
    ⟨none,none,[],rfl,Same.new hl,Zd,.nil⟩ ?_ ?_
   ·rintro i σ H2 hi ⟨v2,v3,qs,rfl,sm2,hl2,hP2⟩
    rw [Int.zero_add]
    refine ⟨_,rfl,a,_,rfl,.inr (sm2.seqT hx),(n:Int),by rw [hxl],by exact Om.c2,by exact Om.c1 ‹_› rfl,?_⟩
    rw [Int.toNat_natCast]
    refine ZU (lo:=0) (n:=n) (ZeP H a n B l i)
     ⟨v3,qs,rfl,sm2,hl2,by rw [show YW n B i 0=[] from rfl,List.append_nil]; exact hP2⟩ ?_ ?_
    ·rintro j σ H3 hj ⟨w3,rs,rfl,sm3,hl3,hP3⟩
     rw [Int.zero_add]
     obtain ⟨pr,hpr,hrow⟩:=Paired.getR hR (S.rowAt hi).1
     have hpr':(ps.map V.ref)[i]? = some (.ref pr):=by rw [List.getElem?_map,hpr]; rfl
     refine ⟨_,rfl,_,rfl,a,_,_,_,rfl,rfl,sm3.seqT hx,ZF hpr',_,rfl,pr,_,_,_,rfl,rfl,sm3.seqT hrow,ZF (S.entAt hi hj).1,_,rfl,?_⟩
     refine YD (fun hc=>?_) (fun hc=>?_)
     ·have hc':=of_decide_eq_true hc
      refine ⟨_,rfl,.inl ⟨rfl,_,SqL.of hl3⟩,_,rfl,_,rfl,(show 3<=sizeLine from Zs (by decide)),fun k hk=>?_⟩
      have sm4:Same H3 (upd H3 k (.tup [.str "cell",.int (i:Int),.int (j:Int)])):=Same.new hk
      refine ⟨_,rfl,_,rfl,_,rfl,a,n,B,i,j,rfl,G.same (sm3.trans sm4),S,hn,hi,hj,fun m H5 hm sm5 hm5=>?_⟩
      rw [ZbK] at hm5
      refine ⟨(show 2<=sizeLine from Zs (by decide)),fun p hp=>?_⟩
      have sm6:Same H5 (upd H5 p (.tup [.ref k,.ref m])):=Same.new hp
      have smA:Same H3 (upd H5 p (.tup [.ref k,.ref m])):=(sm4.trans sm5).trans sm6
      have hml:m≠l:=fun z=>by rw [z,sm4 _ _ hl3] at hm; cases hm
      have x:ChX (fun m=>H m=none/\m≠l) (upd H5 p (.tup [.ref k,.ref m])) p ⟨"cell",i,j,Z1 n B i j⟩:=⟨k,m,⟨(sm3.trans sm4).free hm,hml⟩,Zd,sm6 _ _ (sm5 _ _ Zd),sm6 _ _ hm5⟩
      obtain ⟨e1,e2⟩:=ZaZ hN (smA _ _ hl3) (Paired.mapP hP3 fun _ _ z=>z.same smA) x
      refine ⟨l,_,_,rfl,rfl,smA _ _ hl3,?_,?_⟩
      ·have h1:=hP3.length
       rw [List.length_append] at h1
       have h2:=JQ n B i
       have h3:=Zbz n B i j
       have h4:i*n<=36:=Nat.mul_le_mul (by exact Om.b2 ‹_› ‹_› rfl:i<=6) hn
       rw [List.length_map]
       exact ZD (by exact Om.k102 hn hxl hj h1 h2 h3 h4)
      ·refine ⟨_,rs++[p],rfl,(sm3.trans smA).upd_new hl,e1,?_⟩
       rw [Za0,if_pos hc',<- List.append_assoc]
       exact e2
     ·have hc':¬ at2 B i j = .non:=fun z=>hc (decide_eq_true z)
      refine ⟨_,rs,rfl,sm3,hl3,?_⟩
      rw [Za0,if_neg hc',List.append_nil]
      exact hP3
    ·rintro σ H3 ⟨w3,rs,rfl,sm3,hl3,hP3⟩
     refine ⟨_,_,rs,rfl,sm3,hl3,?_⟩
     unfold YC
     rw [Zas]
     exact hP3
   ·rintro σ H2 ⟨v2,v3,qs,rfl,sm2,hl2,hP2⟩
    exact ⟨_,rfl,q l H2 sm2 hl ⟨qs,hl2,Paired.mapP hP2 fun _ _ z=>z.imp fun m y=>y.1⟩⟩
end
noncomputable def YJ (nm:Str) (n:Nat) (L Cr:List (List V)) (r:Nat) (ts:List Nat):List Ch:=ts.map fun t=>⟨nm,r,t,plN n (Zj L r) Cr t⟩
noncomputable def ZX (nm:Str) (n:Nat) (L Cr:List (List V)) (i:Nat):List Ch:=(List.range i).flatMap fun r=>YJ nm n L Cr r (ZaS n (Zj L r))
theorem YR (nm:Str) (n:Nat) (L Cr:List (List V)) (i:Nat):(ZX nm n L Cr i).length<=i*n:=ZaW _ n (fun r=>by unfold YJ; rw [List.length_map]; exact ZW _ _) i
inductive Zew (K:PySem.W.Frag) (vs:List V) (H:Hp) (Q:VK):Prop where
 | mk (nm:Str) (a c:Addr) (n:Nat) (L Cr:List (List V)) (_:vs=[.str nm,.ref a,.ref c]) (_:GridS K H a L) (_:GridS K H c Cr) (_:Sq n L) (_:Sq n Cr) (_:n<=6) (_:∀ l H',Same H H'->H l=none->ChL (fun m=>H m=none) H' l (ZX nm n L Cr n)->Q (.ref l) H'):Zew K vs H Q
noncomputable def ZfB (K:PySem.W.Frag):Sp:=fun vs H Q _=>Zew K vs H Q
section
variable {P:Program} {w:World} {K:PySem.W.Frag} {mg:Str->Option Value} {base:Heap}
theorem scLines:Zt ["name","lines","crossing","found","which","thing"] ["name","lines","crossing"] (Zf Z6):=⟨rfl,rfl,rfl,by decide +kernel,rfl,by decide +kernel,by decide +kernel⟩
inductive ZeO (H:Hp) (nm:Str) (a:Addr) (c:Addr) (n:Nat) (L:List (List V)) (Cr:List (List V)) (l:Addr) (i:Nat) (σ:St) (H2:Hp):Prop where
 | mk (v2 v3:Option V) (qs:List Addr) (_:σ=[some (.str nm),some (.ref a),some (.ref c),some (.ref l),v2,v3]) (_:Same H H2) (_:H2 l=some (.lst (qs.map V.ref))) (_:Paired (ChX (fun m=>H m=none/\m≠l) H2) qs (ZX nm n L Cr i)):ZeO H nm a c n L Cr l i σ H2
inductive ZeN (H:Hp) (nm:Str) (a:Addr) (c:Addr) (n:Nat) (L:List (List V)) (Cr:List (List V)) (l:Addr) (i:Nat) (ll:Addr) (j:Nat) (σ:St) (H3:Hp):Prop where
 | mk (v3:Option V) (qs:List Addr) (_:σ=[some (.str nm),some (.ref a),some (.ref c),some (.ref l),some (.int (i:Int)),v3]) (_:Same H H3) (_:H3 ll=some (.lst (ZP (ZaS n (Zj L i))))) (_:H3 l=some (.lst (qs.map V.ref))) (_:Paired (ChX (fun m=>H m=none/\m≠l) H3) qs (ZX nm n L Cr i++YJ nm n L Cr i ((ZaS n (Zj L i)).take j))):ZeN H nm a c n L Cr l i ll j σ H3
theorem ZhM {f fL fP:Addr} {fd dL dP:FuncData} (F:Fun K "line_choices" "line_choices" Z6 f fd) (T:Blt mg) (DL:Dfn K mg "lacked" Jc ["line","size"] fL dL) (DP:Dfn K mg "places_left" Jb ["line","crossing","thing"] fP dP):FnOk P w K mg base CX0 2 f fd ["name","lines","crossing"] (ZfB K):=by
 have GL:FnOk P w K mg base CX0 1 fL dL ["line","size"] (ZdY K):=ZgA DL.F T
 have GP:FnOk P w K mg base CX0 1 fP dP ["line","crossing","thing"] (ZdX K):=Zgz DP.F T
 refine F.ok scLines (fun vs H Q E h=>?_) (fun cdv A outer s H vs Q E hr h=>?_)
 ·obtain ⟨_,_,_,_,_,_,rfl,_⟩:=h
  rfl
 ·obtain ⟨nm,a,c,n,L,Cr,rfl,GA,GC,S,SC,hn,q⟩:=h
  refine' ⟨_,Ze (Zq (i:=3) scLines.nd rfl (Or.inl rfl) (Yv Zc)) (Ze (Yf PassesOwn.never rfl ?r1 (ZG (i:=4) scLines.nd rfl (Or.inl rfl)) (Zg (Yf PassesOwn.never rfl ?r2 (ZG (i:=5) scLines.nd rfl (Or.inl rfl)) (Zg ?b)))) (Zg (Zv (pv 3)))),?rd⟩
  case r1=>exact ZB rfl T.range (Za (Zw (Zu K) rfl T.len PySem.boot_len (Za (pv 1) Zc)) Zc)
  case r2=>exact ZaN (Zk GL hr rfl DL.m DL.F.kp DL.b .nil ZA (Za (Zz (ZdF K) (pv 1) (pv 4) (fun _ _=>rfl)) (Za (Zw (Zu K) rfl T.len PySem.boot_len (Za (pv 1) Zc)) Zc)))
  case b=>exact Ys (JC PySem.F.plainAttrs_list PySem.F.slot_list_append PySem.F.type_list_append Z5 (pv 3) (Za (ZH (Za (ZH (Za (pv 0) (Za (pv 4) (Za (pv 5) Zc)))) (Za (Zk GP hr rfl DP.m DP.F.kp DP.b .nil ZA (Za (Zz (ZdF K) (pv 1) (pv 4) (fun _ _=>rfl)) (Za (pv 2) (Za (pv 5) Zc)))) Zc))) Zc))
  case rd =>
   obtain ⟨ps,hx,hR⟩:=id GA
   have hxl:(ps.map V.ref).length=n:=by rw [List.length_map,hR.length,S.len]
   refine ⟨Nat.zero_le _,fun l hl=>?_⟩
   refine ⟨_,rfl,a,_,rfl,(Same.new hl).seqS hx,(n:Int),by rw [hxl],by exact Om.c2,by exact Om.c1 ‹_› rfl,?_⟩
   rw [Int.toNat_natCast]
   have hN:∀ m,(H m=none/\m≠l)->m≠l:=fun m z=>z.2
   refine ZU (lo:=0) (n:=n) (ZeO H nm a c n L Cr l)
    ⟨none,none,[],rfl,Same.new hl,Zd,.nil⟩ ?_ ?_
   ·rintro i σ H2 hi ⟨v2,v3,qs,rfl,sm2,hl2,hP2⟩
    rw [Int.zero_add]
    obtain ⟨ps',p1,hx',hl',hat,hp1⟩:=(GA.same sm2).row S hi
    refine ⟨_,rfl,_,rfl,a,_,_,_,rfl,rfl,hx',hat,_,rfl,a,_,rfl,hx',p1,n,_,by rw [hl']; rfl,hp1,Jq S hi,hn,fun ll HL smL hll hlL=>?_⟩
    have hlll:ll≠l:=fun z=>by rw [z,hl2] at hll; cases hll
    refine ⟨ll,rfl,⟨_,SqL.of hlL⟩,?_⟩
    refine Zai (xs:=ZP (ZaS n (Zj L i))) (ZeN H nm a c n L Cr l i ll)
     ⟨v3,qs,rfl,sm2.trans smL,hlL,smL _ _ hl2,by rw [List.take_zero,show YJ nm n L Cr i []=[] from rfl,List.append_nil]; exact Paired.mapP hP2 fun _ _ z=>z.same smL⟩ (fun j σ H3 _ zz0=> by obtain ⟨_,_,_,_,z,_,_⟩ := zz0; exact SqL.of z) ?_ ?_
    ·rintro j x σ H3 hj ⟨w3,rs,rfl,sm3,hll3,hl3,hP3⟩
     have hj':∃ t,(ZaS n (Zj L i))[j]? = some t/\x = .int (t:Int):=by
      unfold ZP at hj
      rw [List.getElem?_map] at hj
      cases e:(ZaS n (Zj L i))[j]? with
      | none=>rw [e] at hj; cases hj
      | some t=>rw [e] at hj; cases hj; exact ⟨t,rfl,rfl⟩
     obtain ⟨t,ht,rfl⟩:=hj'
     refine ⟨_,rfl,.inl ⟨rfl,_,SqL.of hl3⟩,_,rfl,_,rfl,_,rfl,(show 3<=sizeLine from Zs (by decide)),fun k hk=>?_⟩
     have sm4:Same H3 (upd H3 k (.tup [.str nm,.int (i:Int),.int (t:Int)])):=Same.new hk
     obtain ⟨ps2,p2,hx2,hl2',hat2,hp2⟩:=(GA.same (sm3.trans sm4)).row S hi
     refine ⟨_,rfl,_,rfl,a,_,_,_,rfl,rfl,hx2,hat2,_,rfl,_,rfl,p2,c,n,i,t,L,Cr,rfl,hp2,GC.same (sm3.trans sm4),S,SC,hi,hn,fun m H5 sm5 hm hm5=>?_⟩
     refine ⟨(show 2<=sizeLine from Zs (by decide)),fun p hp=>?_⟩
     have sm6:Same H5 (upd H5 p (.tup [.ref k,.ref m])):=Same.new hp
     have smA:Same H3 (upd H5 p (.tup [.ref k,.ref m])):=(sm4.trans sm5).trans sm6
     have hml:m≠l:=fun z=>by rw [z,sm4 _ _ hl3] at hm; cases hm
     have x:ChX (fun m=>H m=none/\m≠l) (upd H5 p (.tup [.ref k,.ref m])) p ⟨nm,i,t,plN n (Zj L i) Cr t⟩:=⟨k,m,⟨(sm3.trans sm4).free hm,hml⟩,Zd,sm6 _ _ (sm5 _ _ Zd),sm6 _ _ hm5⟩
     obtain ⟨e1,e2⟩:=ZaZ hN (smA _ _ hl3) (Paired.mapP hP3 fun _ _ z=>z.same smA) x
     refine ⟨l,_,_,rfl,rfl,smA _ _ hl3,?_,?_⟩
     ·have h1:=hP3.length
      rw [List.length_append] at h1
      have h2:=YR nm n L Cr i
      have h3:(YJ nm n L Cr i ((ZaS n (Zj L i)).take j)).length<=n:=by
       unfold YJ
       rw [List.length_map,List.length_take]
       exact Nat.le_trans (Nat.min_le_right _ _) (ZW _ _)
      have h4:i*n<=36:=Nat.mul_le_mul (by exact Om.b2 ‹_› ‹_› rfl:i<=6) hn
      rw [List.length_map]
      exact ZD (by exact Om.k101 hn hxl hi hl' hl2' h1 h2 h3 h4)
     ·refine ⟨_,rs++[p],rfl,(sm3.trans smA).upd_new hl,?_,e1,?_⟩
      ·rw [Zh hlll]
       exact smA _ _ hll3
      ·rw [List.take_add_one,ht]
       show Paired _ _ (ZX nm n L Cr i++YJ nm n L Cr i (List.take j (ZaS n (Zj L i))++[t]))
       unfold YJ at e2 ⊢
       rw [List.map_append,<- List.append_assoc]
       exact e2
    ·rintro σ H3 ⟨w3,rs,rfl,sm3,hll3,hl3,hP3⟩
     refine ⟨_,_,rs,rfl,sm3,hl3,?_⟩
     rw [List.take_of_length_le (by unfold ZP; rw [List.length_map]; exact Nat.le_refl _)] at hP3
     unfold ZX
     rw [Zas]
     exact hP3
   ·rintro σ H2 ⟨v2,v3,qs,rfl,sm2,hl2,hP2⟩
    exact ⟨_,rfl,q l H2 sm2 hl ⟨qs,hl2,Paired.mapP hP2 fun _ _ z=>z.imp fun m y=>y.1⟩⟩
end
end My
namespace L2
open PySem PySem.Spec PyProof.Rows
theorem Fun.okC {P:Program} {w:World} {K:PySem.W.Frag} {mg:Str->Option Value} {base:Heap} {x qual:Str} {st:Stmt} {f c:Addr} {fd:FuncData} {N ps:List Str} {k:Nat} {sp:Sp} (F:Fun K x qual st f fd) (hc:fd.code = .ref c) (S:Zt N ps (Zf st)) (len:∀ vs H Q E,sp vs H Q E->vs.length=ps.length)
  (hbody:∀ (A:Around) (outer:List Env) (s:Shared) (H:Hp) (vs:List V) (Q:VK) (E:XK),Room k (A.deeper (envOfC qual (Zf st) s.heap.objs.size f (.ref c)))->sp vs H Q E ->
   ∃ t,PSs (Z9 CX0 P w K mg base N qual (Zf st) f (.ref c) A outer s H E).nox (Zo st) t/\t { nx:=fun _ H'=>Q .non H',rt:=Q } (start N vs) H):FnOk P w K mg base CX0 (k+1) f fd ps sp:=by
 obtain ⟨oc,od,kV,doc,pm,an,cdv,ct,osl,rfl,lk,hcd⟩:=F.ex
 have e:cdv = .ref c:=hc
 subst e
 refine ZfV lk hcd S len fun A outer s H vs Q E hr hsp=>?_
 obtain ⟨t,h,q⟩:=hbody A outer s H vs Q E hr hsp
 exact ⟨t,h.nox,q⟩
end L2
namespace My
open PySem L2
noncomputable def ZV (n:Nat) (B:List (List V)):List Ch:=YC n B n++ZX "row" n B (ZC n B) n++ZX "column" n (ZC n B) B n
inductive Ziu (K:PySem.W.Frag) (vs:List V) (H:Hp) (Q:VK):Prop where
 | mk (a:Addr) (n:Nat) (B:List (List V)) (_:vs=[.ref a]) (_:Grid K H a B) (_:Sq n B) (_:n<=6) (_:∀ l H',Same H H'->ChL (fun m=>H m=none) H' l (ZV n B)->Q (.ref l) H'):Ziu K vs H Q
noncomputable def Zjt (K:PySem.W.Frag):Sp:=fun vs H Q _=>Ziu K vs H Q
theorem Paired.app2 {α β:Type} {F:α->β->Prop} {a1 a2:List α} {b1 b2:List β} (x:Paired F a1 b1) (y:Paired F a2 b2):Paired F (a1++a2) (b1++b2):=Paired.append x y
theorem Zgb (n:Nat) (B:List (List V)) (hn:n<=6):(YC n B n).length<=36/\(ZX "row" n B (ZC n B) n).length<=36/\(ZX "column" n (ZC n B) B n).length<=36:=by
 have h4:n*n<=36:=Nat.mul_le_mul hn hn
 exact ⟨Nat.le_trans (JQ _ _ _) h4,Nat.le_trans (YR _ _ _ _ _) h4,Nat.le_trans (YR _ _ _ _ _) h4⟩
section
variable {P:Program} {w:World} {K:PySem.W.Frag} {mg:Str->Option Value} {base:Heap}
structure ChD (K:PySem.W.Frag) (mg:Str->Option Value) (fL fC fCs fLa fPl fCe fLi fA:Addr) (dL dC dCs dLa dPl dCe dLi dA:FuncData):Prop where
 L:Dfn K mg "left" ZaJ ["begun","row","column"] fL dL
 C:Dfn K mg "column_of" Je ["rows","column"] fC dC
 Cs:Dfn K mg "columns_of" Y0 ["begun"] fCs dCs
 La:Dfn K mg "lacked" Jc ["line","size"] fLa dLa
 Pl:Dfn K mg "places_left" Jb ["line","crossing","thing"] fPl dPl
 Ce:Dfn K mg "cell_choices" Z7 ["begun"] fCe dCe
 Li:Dfn K mg "line_choices" Z6 ["name","lines","crossing"] fLi dLi
 A:Dfn K mg "all_choices" Ym ["begun"] fA dA
variable {fL fC fCs fLa fPl fCe fLi fA:Addr} {dL dC dCs dLa dPl dCe dLi dA:FuncData}
theorem scAll:Zt ["begun","columns"] ["begun"] (Zf Ym):=⟨rfl,rfl,rfl,by decide +kernel,rfl,by decide +kernel,by decide +kernel⟩
theorem Zj5 (T:Blt mg) (Z:ChD K mg fL fC fCs fLa fPl fCe fLi fA dL dC dCs dLa dPl dCe dLi dA):FnOk P w K mg base CX0 3 fA dA ["begun"] (Zjt K):=by
 have GCs:FnOk P w K mg base CX0 2 fCs dCs ["begun"] (ZcM K):=Zfd Z.Cs.F T Z.C
 have GCe:FnOk P w K mg base CX0 2 fCe dCe ["begun"] (ZfD K):=ZhO Z.Ce.F T Z.L
 have GLi:FnOk P w K mg base CX0 2 fLi dLi ["name","lines","crossing"] (ZfB K):=ZhM Z.Li.F T Z.La Z.Pl
 refine Z.A.F.ok scAll (fun vs H Q E h=>?_) (fun cdv A outer s H vs Q E hr h=>?_)
 ·obtain ⟨_,_,_,rfl,_⟩:=h
  rfl
 ·obtain ⟨a,n,B,rfl,G,S,hn,q⟩:=h
  refine' ⟨_,Ze ?s0 (Zg (Zv (Zl Zb5 (Zl Zb5 ?e1 ?e2) ?e3))),?rd⟩
  case s0=>exact Zq (i:=1) scAll.nd rfl (Or.inl rfl) (Zk GCs hr rfl Z.Cs.m Z.Cs.F.kp Z.Cs.b .nil ZA (Za (pv 0) Zc))
  case e1=>exact Zk GCe hr rfl Z.Ce.m Z.Ce.F.kp Z.Ce.b .nil ZA (Za (pv 0) Zc)
  case e2=>exact Zk GLi hr rfl Z.Li.m Z.Li.F.kp Z.Li.b .nil ZA (Za Z0 (Za (pv 0) (Za (pv 1) Zc)))
  case e3=>exact Zk GLi hr rfl Z.Li.m Z.Li.F.kp Z.Li.b .nil ZA (Za Z0 (Za (pv 1) (Za (pv 0) Zc)))
  case rd =>
   obtain ⟨l1,l2,l3⟩:=Zgb n B hn
   refine ⟨_,rfl,a,n,B,rfl,G,S,hn,fun lc H1 sm1 GT=>?_⟩
   refine ⟨_,rfl,a,n,B,rfl,G.same sm1,S,hn,fun la H2 sm2 hla C1=>?_⟩
   refine ⟨_,rfl,_,rfl,"row",a,lc,n,B,ZC n B,rfl,(Zh5 G).same (sm1.trans sm2),GT.same sm2,S,Zao S,hn,fun lb H3 sm3 hlb C2=>?_⟩
   obtain ⟨ps1,h1,P1⟩:=C1.same sm3
   obtain ⟨ps2,h2,P2⟩:=C2
   have e1:=P1.length
   have e2:=P2.length
   refine ⟨la,lb,_,_,rfl,rfl,h1,h2,?_,fun ld hld=>?_⟩
   ·rw [List.length_map,List.length_map]
    exact Nat.le_of_lt (ZD (by exact Om.k100 l1 l2 e1 e2))
   have sm4:Same H3 (upd H3 ld (.lst (ps1.map V.ref++ps2.map V.ref))):=Same.new hld
   have smA:=((sm1.trans sm2).trans sm3).trans sm4
   refine ⟨_,rfl,_,rfl,"column",lc,a,n,ZC n B,B,rfl,GT.same ((sm2.trans sm3).trans sm4),(Zh5 G).same smA,Zao S,S,hn,fun le H5 sm5 hle C3=>?_⟩
   obtain ⟨ps3,h3,P3⟩:=C3
   have e3:=P3.length
   refine ⟨ld,le,_,_,rfl,rfl,sm5 _ _ Zd,h3,?_,fun lf hlf=>?_⟩
   ·rw [List.length_append,List.length_map,List.length_map,List.length_map]
    exact Nat.le_of_lt (ZD (by exact Om.k99 l1 l2 l3 e1 e2 e3))
   have sm6:Same H5 (upd H5 lf (.lst ((ps1.map V.ref++ps2.map V.ref)++ps3.map V.ref))):=Same.new hlf
   have sm46:=(sm4.trans sm5).trans sm6
   refine q lf _ ((smA.trans sm5).trans sm6) ⟨ps1++ps2++ps3,by rw [Zd,List.map_append,List.map_append],?_⟩
   refine Paired.app2 (Paired.app2 (Paired.mapP P1 fun _ _ z=>(z.same sm46).imp fun m y=>sm1.free y) (Paired.mapP P2 fun _ _ z=>(z.same sm46).imp fun m y=>(sm1.trans sm2).free y)) (Paired.mapP P3 fun _ _ z=>(z.same sm6).imp fun m y=>smA.free y)
noncomputable def Y4 (cs:List Ch) (i:Nat):Int:=((cs[i]?).map fun c=>(c.xs.length:Int)).getD 0
noncomputable def IsFirst (n:Nat) (B:List (List V)) (c:Ch):Prop:=∃ i,(ZV n B)[i]? = some c/\FirstLeast (Y4 (ZV n B)) (ZV n B).length i
theorem IsFirst.uniq {n:Nat} {B:List (List V)} {c d:Ch} (x:IsFirst n B c) (y:IsFirst n B d):c=d:=by
 obtain ⟨i,e1,f1⟩:=x
 obtain ⟨j,e2,f2⟩:=y
 obtain rfl:=f1.uniq f2
 rw [e1] at e2
 exact Option.some.inj e2
theorem Zb8 {n:Nat} {B:List (List V)} {r c:Nat} (hr:r<n) (hc:c<n) (h:at2 B r c = .non):(⟨"cell",r,c,Z1 n B r c⟩:Ch)∈YC n B n:=by
 unfold YC
 refine List.mem_flatMap.mpr ⟨r,List.mem_range.mpr hr,?_⟩
 unfold YW
 exact List.mem_map.mpr ⟨c,mem_rangeF.mpr ⟨hc,decide_eq_true h⟩,rfl⟩
theorem Zda {n:Nat} {B:List (List V)} {r c:Nat} (hr:r<n) (hc:c<n) (h:at2 B r c = .non):0<(ZV n B).length:=by
 have:=List.length_pos_of_mem (Zb8 hr hc h)
 unfold ZV
 rw [List.length_append,List.length_append]
 omega
noncomputable abbrev Zcy:Str:="first_choice.<locals>.<lambda>"
inductive Zey (K:PySem.W.Frag) (Tb:Addr) (vs:List V) (H:Hp) (Q:VK):Prop where
 | mk (a:Addr) (n:Nat) (B:List (List V)) (r c:Nat) (_:vs=[.ref a]) (_:Grid K H a B) (_:Sq n B) (_:n<=6) (_:r<n) (_:c<n) (_:at2 B r c = .non) (_:H Tb=some (Zat Zcy)) (_:∀ p H' ch,Same H H'->IsFirst n B ch->ChX (fun m=>H m=none) H' p ch->Q (.ref p) H'):Zey K Tb vs H Q
noncomputable def ZbG (K:PySem.W.Frag) (Tb:Addr):Sp:=fun vs H Q _=>Zey K Tb vs H Q
theorem ZiG:Zt ["begun"] ["begun"] (Zf ZY):=⟨rfl,rfl,rfl,by decide +kernel,rfl,by decide +kernel,by decide +kernel⟩
theorem ZaQ {f c Tb:Addr} {fd:FuncData} (F:Fun K "first_choice" "first_choice" ZY f fd) (hc:fd.code = .ref c) (C:PySem.W.CodeHd base c Tb) (BM:Za5 mg base) (T:Blt mg) (Z:ChD K mg fL fC fCs fLa fPl fCe fLi fA dL dC dCs dLa dPl dCe dLi dA) :
  FnOk P w K mg base CX0 4 f fd ["begun"] (ZbG K Tb):=by
 have GA:FnOk P w K mg base CX0 3 fA dA ["begun"] (Zjt K):=Zj5 T Z
 refine F.okC hc ZiG (fun vs H Q E h=>?_) (fun A outer s H vs Q E hr h=>?_)
 ·obtain ⟨_,_,_,_,_,rfl,_⟩:=h
  rfl
 ·obtain ⟨a,n,B,r,cc,rfl,G,S,hn,hrn,hcn,he,hT,q⟩:=h
  refine ⟨_,Zg (Zv (Zgw (qual:=Zcy) (x:="told") (P:=Tb) (hr.mono (by decide)) rfl rfl T.min (Za (Zk GA hr rfl Z.A.m Z.A.F.kp Z.A.b .nil ZA (Za (pv 0) Zc)) Zc) rfl C BM ⟨rfl,rfl,rfl,by decide +kernel,rfl,by decide +kernel,by decide +kernel⟩
   (fun f c' A outer s H=>Zw (Zu K) rfl T.len PySem.boot_len (Za (Zz (ZT K) (pv 0) Zi (fun _ _=>rfl)) Zc)) (fun H p b a ys Q hp hb hq=>⟨_,rfl,p,_,(1:Int),.ref b,rfl,rfl,hp,rfl,b,ys,rfl,.inl hb,hq⟩))),?_⟩
  refine ⟨_,rfl,a,n,B,rfl,G,S,hn,fun l H1 sm1 CL1=>?_⟩
  obtain ⟨ps,hl,hP⟩:=CL1
  refine ⟨sm1 _ _ hT,l,ps,Y4 (ZV n B),rfl,hl,by rw [hP.length]; exact Zda hrn hcn he,fun i p hi=>?_,fun i p H2 hi fl sm2=>?_⟩
  ·obtain ⟨ch,e1,k,m,_,e2,e3,e4⟩:=Paired.getL hP hi
   refine ⟨_,m,_,e2,e4,?_⟩
   unfold Y4 ZP
   rw [e1,List.length_map]
   rfl
  ·obtain ⟨ch,e1,x⟩:=Paired.getL hP hi
   rw [hP.length] at fl
   exact q p H2 ch (sm1.trans sm2) ⟨i,e1,fl⟩ (x.same sm2)
end
end My
namespace L2
open PySem PySem.Spec PyProof.Rows
section
variable {prog:Program} {w:World} {A:Around} {E:Value->Shared->Prop} {s:Shared}
theorem Yr:∀ {vs:List Value} {ns:List Int},IntsAre vs ns->vs.length=ns.length
 | _,_,.nil=>rfl
 | _,_,.cons _ _ r=>by rw [List.length_cons,List.length_cons,Yr r]
theorem YA:∀ {vs:List Value} {ns:List Int},IntsAre vs ns->∀ (j:Nat) (h:j<ns.length),∃ t,vs[j]? = some (.int ns[j] t)
 | _,_,.cons n t r,0,_=>⟨t,rfl⟩
 | _,_,.cons n t r,j+1,h=>YA r j (Nat.lt_of_succ_lt_succ h)
end
section
variable {X:Cx} {o e:Expr} {to:TE} {t:TA} {apos cpos:Pos}
end
end L2
namespace My
open PySem L2
theorem Zdu {X:Cx} {pos:Pos} {es:List Expr} {k:Nat} {t:TGs} {n:Nat} (K:PySem.W.Frag) (hc:X.calm=true) (h:PGs X es t) (hK:X.K=K:=by rfl)
  (hn:(assignEach es X.env).length=n:=by rfl) (hst:(assignEach es X.env).findIdx? (·.1)=none:=by rfl):PG X (.Tuple es k pos) (ZkU K n t):=by subst hK; exact ZhC hc h hn hst
end My
namespace L2
open PySem PySem.Spec PyProof.Rows
open PySem.SeqAt
end L2
namespace L2
open PySem PySem.Spec PyProof.Rows
end L2
namespace L2
open PySem PySem.Spec PyProof.Rows PySem.W
noncomputable def ZaA {α:Type} (n:Nat) (lt:Nat->Nat->Bool):KasT α->Option α
 | .ret a=>some a
 | .ask i j k=>if decide (i<n)&&decide (j<n) then ZaA n lt (k (lt i j)) else none
theorem Zds {α:Type} {n:Nat} {lt:Nat->Nat->Bool} {cmp:Nat->Nat->(Bool->Shared->Prop)->Shared->Prop} {Q:α->Shared->Prop} {s:Shared} (hc:∀ i j (C:Bool->Shared->Prop),i<n->j<n->C (lt i j) s->cmp i j C s) :
  ∀ (t:KasT α) {a:α},ZaA n lt t=some a->Q a s->t.kasWp cmp Q s
 | .ret b,a,e,q=>by
  have e':b=a:=Option.some.inj e
  subst e'
  exact q
 | .ask i j k,a,e,q=>by
  unfold ZaA at e
  cases hb:(decide (i<n)&&decide (j<n)) with
  | false=>rw [hb] at e; cases e
  | true =>
   rw [hb] at e
   rw [Bool.and_eq_true,decide_eq_true_eq,decide_eq_true_eq] at hb
   exact hc i j _ hb.1 hb.2 (Zds hc (k (lt i j)) e q)
noncomputable def JX:List Int->List Int->Bool
 | x::xs,y::ys=>if x=y then JX xs ys else decide (x<y)
 | _,_=>false
section
variable {prog:Program} {w:World} {A:Around} {E:Value->Shared->Prop} {s:Shared}
theorem ZfP {b:Bool} {Q:Bool->Shared->Prop}:∀ {us vs:List Value} {xs ys:List Int} {i:Nat},IntsAre us xs->IntsAre vs ys->xs.length=ys.length->Q (JX xs ys) s->KatLex prog w A b false Q (us.zip vs) i s
 | _,_,_,_,_,.nil,.nil,_,q=>q
 | _,_,_,_,_,.cons _ _ _,.nil,e,_=>by cases e
 | _,_,_,_,_,.nil,.cons _ _ _,e,_=>by cases e
 | _,_,x::xs,y::ys,i,.cons _ t r,.cons _ u r',e,q=>by
  refine kat_cons (wpAny_eqBool_int ?_)
  unfold JX at q
  by_cases hx:x=y
  ·subst hx
   rw [if_pos rfl] at q
   have hb:(x==x)=true:=by simp
   rw [hb]
   exact kat_yes (ZfP r r' (Nat.succ.inj e) q)
  ·rw [if_neg hx] at q
   have hb:(x==y)=false:=by simpa using hx
   rw [hb]
   refine kat_no ?_
   cases hbi:(b&&i==0) with
   | true=>exact oneLt_int q
   | false=>exact kat_one _ _ (lt_int q)
noncomputable def Zg2 (h:Heap):List Value->List (List Int)->Prop:=Paired fun v r=>∃ a o us n,v=Value.ref a/\h.get? a=some o/\o.cls = .type "tuple" /\ o.data = .seq (List.toArray us) n/\IntsAre us r
theorem Zbj {h:Heap} {M:Model}:∀ {vs:List Value} {S:List (List Int)},Zg2 h vs S->(∀ r∈S,r≠[])->∃ fs,KatTups h vs fs/\fs.length=vs.length/\∀ v∈fs,Looks M h (typeOf v) (.type "int")
 | _,_,.nil,_=>⟨[],.nil,rfl,fun v hv=>by cases hv⟩
 | _,_,.cons ⟨a,o,us,n,e,g,c,d,iu⟩ t,hS=>by
  subst e
  obtain ⟨fs,k,hl,hT⟩:=Zbj (M:=M) t fun r hr=>hS r (List.mem_cons_of_mem _ hr)
  have h0:=hS _ List.mem_cons_self
  cases iu with
  | nil=>exact absurd rfl h0
  | cons x tk r =>
   refine ⟨.int x tk::fs,KatTups.cons g c d rfl k,by rw [List.length_cons,List.length_cons,hl],fun v hv=>?_⟩
   rcases List.mem_cons.mp hv with e | hv
   ·subst e
    exact Looks.of_pure rfl
   ·exact hT v hv
theorem Zcc {a:Addr} {vs:List Value} {S:List (List Int)} {n k:Nat} {p:Array Nat} {P:PySem.Fin->Shared->Prop} (ho:s.heap.get? a=some (seqObj "list" vs.toArray n)) (ht:Zg2 s.heap vs S) (hk:∀ r∈S,r.length=k) (hk0:0<k)
  (h2:2<=vs.length) (h64:vs.length<64) (hp:ZaA vs.length (fun i j=>JX (S.getD i []) (S.getD j [])) (kas_sort vs.length)=some p)
  (h:P (.done (.ret .none)) { s with heap:=sortedHeap s.heap a vs (List.toArray (p.toList.map fun i=>vs.getD i Value.none)) }) :
  wpAny (model prog w) A (Builtin.«list.sort» ⟨[.ref a],[]⟩) P E s:=by
 have ha:a<s.heap.objs.size:=Heap.lt_size ho
 obtain ⟨e1,ho1⟩:∃ e1,(s.heap.update a (Obj.mapSeq fun _=>(#[]:Array Value))).get? a=some (seqObj "list" #[] e1):=⟨_,get?_update_seq ho fun _=>#[]⟩
 have keep:∀ b o,b≠a->s.heap.get? b=some o->(((s.heap.update a (Obj.mapSeq fun _=>(#[]:Array Value))).push (seqObj "tuple" vs.toArray 0)).push (seqObj "list" #[] 0)).get? b=some o:=fun b o hb e=>by
  refine Heap.get?_push_of_some _ (Heap.get?_push_of_some _ ?_)
  rw [Heap.get?_update_ne _ _ _ _ hb]
  exact e
 have ho6:(((s.heap.update a (Obj.mapSeq fun _=>(#[]:Array Value))).push (seqObj "tuple" vs.toArray 0)).push (seqObj "list" #[] 0)).get? a=some (seqObj "list" #[] e1):=Heap.get?_push_of_some _ (Heap.get?_push_of_some _ ho1)
 have ht3:Zg2 (((s.heap.update a (Obj.mapSeq fun _=>(#[]:Array Value))).push (seqObj "tuple" vs.toArray 0)).push (seqObj "list" #[] 0)) vs S:=Paired.mapP ht fun v r ⟨b,o,us,m,e,g,c,d,iu⟩=>by
  refine ⟨b,o,us,m,e,keep b o (fun z=>?_) g,c,d,iu⟩
  rw [z,ho] at g
  cases g
  exact absurd c (by simp [seqObj])
 rw [list_sort_plain]
 refine wpAny_bind (listItems_at ho rfl ?_)
 refine wpAny_bind (listUpdate_at ho rfl ?_ (by rw [List.size_toArray,sizeLine_eq]; exact Om.k29 h2 h64) (Nat.zero_le _))
 refine wpAny_bind (seqEpoch_at ho1 rfl ?_)
 refine wpAny_bind (wpAny_newTuple ?_ (by show vs.length<=_; rw [sizeLine_eq]; exact Om.k29 h2 h64))
 refine wpAny_bind (wpAny_newList ?_ (Nat.zero_le _))
 refine wpAny_holding ?_
 show wpAny (model prog w) A _ P E { s with heap:=((s.heap.update a (Obj.mapSeq fun _=>(#[]:Array Value))).push (seqObj "tuple" vs.toArray 0)).push (seqObj "list" #[] 0) }
 dsimp only
 have hn2:¬ vs.toArray.size<2:=by rw [List.size_toArray]; exact Om.k34 h2 h64
 rw [if_neg hn2,if_neg hn2]
 obtain ⟨fs,kt,hfl,hT⟩:=Zbj (M:=model prog w) ht3 (fun r hr z=>by have:=hk r hr; rw [z] at this; simp at this; exact (Om.k33 hk0 this).elim)
 refine wpAny_bind (kat_kind kt (by exact Om.k32 h2 h64 hfl) hT rfl ?_)
 have hlen:vs.length=S.length:=Paired.length ht3
 have hk3:(kas_sort vs.length).kasWp (kas_ask prog w A (tuples' (Value.type "int" != Value.type "tuple")) vs) (fun p' s'=>p'=p/\s'={ s with heap:=((s.heap.update a (Obj.mapSeq fun _=>(#[]:Array Value))).push (seqObj "tuple" vs.toArray 0)).push (seqObj "list" #[] 0) }) { s with heap:=((s.heap.update a (Obj.mapSeq fun _=>(#[]:Array Value))).push (seqObj "tuple" vs.toArray 0)).push (seqObj "list" #[] 0) }:=by
  refine Zds (fun i j C hi hj hC=>?_) _ hp ⟨rfl,rfl⟩
  obtain ⟨ri,hri,bi,oi,ui,mi,ei,gi,ci,di,ii⟩:=Paired.getL ht3 (List.getElem?_eq_getElem hi)
  obtain ⟨rj,hrj,bj,oj,uj,mj,ej,gj,cj,dj,ij⟩:=Paired.getL ht3 (List.getElem?_eq_getElem hj)
  have e1:vs.getD i Value.none = .ref bi:=by rw [List.getD_eq_getElem?_getD,List.getElem?_eq_getElem hi,ei]; rfl
  have e2:vs.getD j Value.none = .ref bj:=by rw [List.getD_eq_getElem?_getD,List.getElem?_eq_getElem hj,ej]; rfl
  have e3:S.getD i []=ri:=by rw [List.getD_eq_getElem?_getD,hri]; rfl
  have e4:S.getD j []=rj:=by rw [List.getD_eq_getElem?_getD,hrj]; rfl
  have l1:=hk ri (List.mem_of_getElem? hri)
  have l2:=hk rj (List.mem_of_getElem? hrj)
  rw [e3,e4] at hC
  show wpAny (model prog w) A (keyLt' _ (vs.getD i Value.none) (vs.getD j Value.none)) C _ _
  rw [e1,e2]
  have hsz:decide ((List.toArray ui).size<(List.toArray uj).size)=false:=by
   rw [List.size_toArray,List.size_toArray,Yr ii,Yr ij,l1,l2]
   simp
  refine kat_lt gi di gj dj ?_
  rw [hsz]
  exact ZfP ii ij (l1.trans l2.symm) hC
 refine wpAny_bind (wpAny_mono (kat_run (ks:=vs) (Q:=fun st' s'=>∃ p':Array Nat,p'.size=vs.length/\arrOf st'=p'.map (kas_item (vs.toArray.zip vs.toArray))/\failedOf st'=none/\p'=p/\s'={ s with heap:=((s.heap.update a (Obj.mapSeq fun _=>(#[]:Array Value))).push (seqObj "tuple" vs.toArray 0)).push (seqObj "list" #[] 0) })
  rfl h2 h64 (fun p' st' s' a1 a2 a3 a4=>⟨p',a1,a2,a3,a4⟩) hk3) ?_ fun _ _ e=>e)
 rintro ⟨⟨⟩,st'⟩ s' ⟨p',hpz,har,hf,rfl,rfl⟩
 dsimp only
 have hout:=kat_snds rfl har
 have hsz:(List.toArray (p'.toList.map fun i=>vs.getD i Value.none)).size=vs.length:=by rw [List.size_toArray,List.length_map,Array.length_toList,hpz]
 rw [hout]
 refine wpAny_bind (seqEpoch_at ho6 rfl ?_)
 refine wpAny_bind (listUpdate_at ho6 rfl ?_ (Nat.zero_le _) (Nat.le_trans (Nat.le_of_eq hsz) (by rw [sizeLine_eq]; exact Om.k30 h2 h64 hfl hlen hpz hsz)))
 rw [hf]
 simp only [bne_self_eq_false,Bool.false_eq_true,if_false]
 exact wpAny_pure h
end
end L2
namespace L2
open PySem PySem.Spec PyProof.Rows
section
variable {prog:Program} {w:World} {A:Around} {E:Value->Shared->Prop} {s:Shared} {κ:Type} [DecidableEq κ] {knd:KeyKind prog w κ}
theorem ZgP {d:Addr} {Q:Bool->Shared->Prop} (hT:s.TypeIs (.ref d) "dict") (h:Q false s):wpAny (model prog w) A (Builtin.List.listLengthHint (.ref d)) Q E s:=by
 unfold Builtin.List.listLengthHint
 refine wpAny_bind (wpAny_specialOf hT F.slot_dict_len.lookup ?_)
 generalize hid:("dict.__len__" : String)=id0
 wp_delta
 rw [show splitId id0=some ("dict","__len__") from by subst hid; decide +kernel]
 subst hid
 refine wpAny_bind (wpAny_isInstance (T:="dict") (b:=true) hT (by rw [isSubtype_type]; kernel_rfl) ?_)
 refine wpAny_ite_split (fun hab=>absurd hab (by decide)) (fun _=>?_)
 refine wpAny_ite_split (fun _=>?_) (fun hab=>absurd (by decide +kernel) hab)
 exact wpAny_bind (wpAny_typeOf hT (wpAny_pure h))
end
end L2
namespace L2
open PySem PySem.Spec PyProof.Rows
section
variable {prog:Program} {w:World} {A:Around} {E:Value->Shared->Prop} {s:Shared}
end
end L2
namespace L2
open PySem PySem.Spec PyProof.Rows
section
variable {prog:Program} {w:World} {A:Around} {R:Result->Shared->Prop} {I:Addr} {fp wr:List Addr} {G:Array GenState->Array GenState->Prop} {P:Nat->Value->Prop} {St:Nat->Shared->Prop}
end
section
variable {prog:Program} {w:World} {A:Around} {E:Value->Shared->Prop} {s:Shared}
end
end L2
namespace L2
open PySem PySem.Spec PyProof.Rows
section
variable {prog:Program} {w:World} {A:Around} {E:Value->Shared->Prop} {s:Shared} {R:Result->Shared->Prop}
end
end L2
namespace L2
open PySem PySem.Spec PyProof.Rows PySem.W SeqAt
theorem Ze3 (l b:Addr) (items items2:List Value) (n n2:Nat) (dd dd2:Option Addr) (sl sl2:Array (Option Value)) (xs ys:List Int) (hi:IntsAre items xs) (hi2:IntsAre items2 ys) (hlen:xs.length=ys.length) :
  Meets (Builtin.«tuple.__lt__» ⟨[.ref l,.ref b],[]⟩)
   (fun A R s=>s.heap.get? l=some { cls:=.type "tuple",dict:=dd,data:=.seq items.toArray n,slots:=sl }/\s.heap.get? b=some { cls:=.type "tuple",dict:=dd2,data:=.seq items2.toArray n2,slots:=sl2 } /\
    R (.ok (.ret (.bool (JX xs ys)))) s) :=
 .of_wp fun prog w A R s h=>by
  obtain ⟨hp,g,d,tk,os⟩:=s; obtain ⟨hl,hb,h⟩:=h
  have f2:=AutoSeq1.sub_tuple_tuple
  have hl1:=Yr hi
  have hl2:=Yr hi2
  have hZ:(items.zip items2).length=xs.length:=by simp; exact Om.k98 hlen hl1 hl2
  wp_walk using wpAny_loadPart' hl,wpAny_loadPart' hb,wpAny_forIn_list _ (fun rest b s'=>b.1=none/\s'=⟨hp,g,d,tk,os⟩/\∃ i,rest=(items.zip items2).drop i /\
   R (.ok (.ret (.bool (JX (xs.drop i) (ys.drop i))))) ⟨hp,g,d,tk,os⟩) _
  case turn =>
   rintro ⟨y,x⟩ rest b s' ⟨hb',rfl,i,hz,hR⟩
   have hlt:i<(items.zip items2).length:=by
    rcases Nat.lt_or_ge i (items.zip items2).length with h' | h'
    ·exact h'
    ·rw [List.drop_of_length_le h'] at hz; cases hz
   have hix:i<xs.length:=hZ ▸ hlt
   have hiy:i<ys.length:=by exact Om.a2 ‹_› ‹_›
   rw [List.drop_eq_getElem_cons hlt] at hz
   injection hz with hyx hrest
   obtain ⟨t1,h1⟩:=YA hi i hix
   obtain ⟨t2,h2⟩:=YA hi2 i hiy
   have hy:y = .int xs[i] t1:=by
    have e:=congrArg Prod.fst hyx
    rw [List.getElem_zip] at e
    rw [List.getElem?_eq_getElem (by exact Om.a1 ‹_› ‹_›)] at h1
    exact e.trans (Option.some.inj h1)
   have hx:x = .int ys[i] t2:=by
    have e:=congrArg Prod.snd hyx
    rw [List.getElem_zip] at e
    rw [List.getElem?_eq_getElem (by exact Om.a1 ‹_› ‹_›)] at h2
    exact e.trans (Option.some.inj h2)
   subst hy hx
   rw [List.drop_eq_getElem_cons hix,List.drop_eq_getElem_cons hiy] at hR
   unfold JX at hR
   refine wpAny_bind (wpAny_eqBool_int ?_)
   by_cases he:xs[i]=ys[i]
   ·rw [if_pos he] at hR
    have hb:(xs[i]==ys[i])=true:=by simpa using he
    rw [hb]
    wp_walk
    exact ⟨rfl,rfl,i+1,hrest,hR⟩
   ·rw [if_neg he] at hR
    have hb:(xs[i]==ys[i])=false:=by simpa using he
    rw [hb]
    generalize hRC:richCompare=RC
    wp_walk
    subst hRC
    refine PyProof.Rows.lt_int (a:=xs[i]) (b:=ys[i]) ?_
    wp_walk
    exact ⟨_,rfl,hR⟩
  case fin =>
   rintro ⟨b1,b2⟩ s' ⟨hb',rfl,i,hz,hR⟩
   simp only at hb'
   subst hb'
   have hge:xs.length<=i:=by
    rcases Nat.lt_or_ge i (items.zip items2).length with h' | h'
    ·rw [List.drop_eq_getElem_cons h'] at hz; cases hz
    ·exact hZ ▸ h'
   rw [List.drop_of_length_le hge] at hR
   have hsz:items.length=items2.length:=by exact Om.u2 ‹_› ‹_› ‹_›
   wp_walk
   refine ⟨_,rfl,?_⟩
   simpa [Builtin.Tuple.tupleCompareSizes,JX,hsz] using hR
  case h =>
   exact ⟨rfl,rfl,0,by simp,by simpa using h⟩
section
variable {A:Around} {s:Shared}
theorem Zi4 {prog:Program} {w:World} {E:Value->Shared->Prop} {Q:Value->Shared->Prop} {l b:Addr} {items items2:List Value} {xs ys:List Int} (hl:s.heap.IsTuple l items.toArray) (hb:s.heap.IsTuple b items2.toArray) (hi:IntsAre items xs) (hi2:IntsAre items2 ys) (hlen:xs.length=ys.length) (hu:A.units<cLine) (h:Q (.bool (JX xs ys)) s) :
  wpAny (model prog w) A (compareOp .Lt (.ref l) (.ref b)) Q E s:=by
 obtain ⟨⟨cls,dd,data,sl⟩,ho,hc,n,hd⟩:=id hl
 obtain ⟨⟨cls2,dd2,data2,sl2⟩,ho2,hc2,n2,hd2⟩:=id hb
 simp only at hc hd hc2 hd2
 subst hc hd hc2 hd2
 exact richCompare_meets_room (op:=.Lt) ⟨_,ho,rfl⟩ ⟨_,ho2,rfl⟩ F.slot_tuple_lt F.entry_tuple_lt (F.args_tuple_lt_2 _ _) (Ze3 l b items items2 n n2 dd dd2 sl sl2 xs ys hi hi2 hlen)
  ⟨ho,ho2,show Value.bool (JX xs ys)≠Value.notImplemented/\Q (.bool (JX xs ys)) s from ⟨(fun x=>nomatch x),h⟩⟩ hu
theorem Zjg {l b:Addr} {items items2:List Value} {xs ys:List Int} (hl:s.heap.IsTuple l items.toArray) (hb:s.heap.IsTuple b items2.toArray) (hi:IntsAre items xs) (hi2:IntsAre items2 ys) (hlen:xs.length=ys.length) (hu:A.units<cLine):EqAt A s (.ref l) (.ref b) (decide (xs=ys)):=by
 have z1:=Yr hi
 have z2:=Yr hi2
 by_cases hne:l=b
 ·subst hne
  have e:items=items2:=by
   obtain ⟨o,ho,_,n,hd⟩:=id hl
   obtain ⟨o2,ho2,_,n2,hd2⟩:=id hb
   rw [ho] at ho2
   cases ho2
   rw [hd] at hd2
   injection hd2 with h1 h2
   have:=congrArg Array.toList h1
   simpa using this
  subst e
  have e2:xs=ys:=by
   refine List.ext_getElem hlen fun j h1 h2=>?_
   obtain ⟨t1,g1⟩:=YA hi j h1
   obtain ⟨t2,g2⟩:=YA hi2 j h2
   rw [g1] at g2
   have:=Option.some.inj g2
   injection this
  rw [decide_eq_true e2]
  exact EqAt.same _
 ·have hr:=RcAt.tuples (A:=A) (s:=s) (e:=fun j=>decide (xs.getD j 0=ys.getD j 0)) hl hb hu fun j h1 h2=>by
   have j1:j<xs.length:=by simpa [z1] using h1
   have j2:j<ys.length:=by exact Om.a2 ‹_› ‹_›
   obtain ⟨t1,g1⟩:=YA hi j j1
   obtain ⟨t2,g2⟩:=YA hi2 j j2
   have e1:items.toArray[j] = .int xs[j] t1:=by
    rw [List.getElem?_eq_getElem (by exact Om.a1 ‹_› ‹_›)] at g1
    simpa using Option.some.inj g1
   have e2:items2.toArray[j] = .int ys[j] t2:=by
    rw [List.getElem?_eq_getElem (by exact Om.a1 ‹_› ‹_›)] at g2
    simpa using Option.some.inj g2
   rw [e1,e2]
   intro prog w E Q hq
   refine wpAny_eqBool_int ?_
   have e3:(xs[j]==ys[j])=decide (xs.getD j 0=ys.getD j 0):=by
    rw [List.getD_eq_getElem?_getD,List.getD_eq_getElem?_getD,List.getElem?_eq_getElem j1,List.getElem?_eq_getElem j2]
    show (xs[j]==ys[j])=decide (xs[j]=ys[j])
    rw [Bool.eq_iff_iff]
    simp
   rw [e3]
   exact hq
  have e:((List.range (min items.toArray.size items2.toArray.size)).all (fun j=>decide (xs.getD j 0=ys.getD j 0))&&items.toArray.size==items2.toArray.size)=decide (xs=ys):=by
   have s1:items.toArray.size=xs.length:=by simp [z1]
   have s2:items2.toArray.size=xs.length:=by simp [z2,hlen]
   rw [s1,s2,Nat.min_self,beq_self_eq_true,Bool.and_true,Bool.eq_iff_iff,List.all_eq_true,decide_eq_true_eq]
   constructor
   ·intro h
    refine List.ext_getElem hlen fun j h1 h2=>?_
    have:=of_decide_eq_true (h j (List.mem_range.mpr h1))
    rw [List.getD_eq_getElem?_getD,List.getD_eq_getElem?_getD,List.getElem?_eq_getElem h1,List.getElem?_eq_getElem h2] at this
    exact this
   ·intro h j _
    rw [h]
    exact decide_eq_true rfl
  rw [<- e]
  exact EqAt.of_refs hne hr
end
end L2
namespace L2
open PySem PySem.Spec PyProof.Rows PySem.W SeqAt
section
variable {prog:Program} {w:World} {A:Around} {E:Value->Shared->Prop} {s:Shared}
end
end L2
namespace L2
open PySem PySem.Spec PyProof.Rows PySem.W SeqAt
theorem Zb0 {α:Type} {n:Nat} {lt lt':Nat->Nat->Bool} (h:∀ i j,i<n->j<n->lt i j=lt' i j):∀ t:KasT α,ZaA n lt t=ZaA n lt' t
 | .ret a=>rfl
 | .ask i j k=>by
  unfold ZaA
  cases hb:(decide (i<n)&&decide (j<n)) with
  | false=>rfl
  | true =>
   rw [Bool.and_eq_true,decide_eq_true_eq,decide_eq_true_eq] at hb
   rw [if_pos rfl,if_pos rfl,h i j hb.1 hb.2]
   exact Zb0 h _
theorem srt:∀ n,n<64->2<=n->(match ZaA n (fun i j=>decide (i<j)) (kas_sort n) with | some p=>decide (p=Array.range n) | none=>false)=true:=by decide +kernel
theorem Zhd {n:Nat} (h64:n<64) (h2:2<=n):ZaA n (fun i j=>decide (i<j)) (kas_sort n)=some (Array.range n):=by
 have h:=srt n h64 h2
 split at h
 ·next p hp=>rw [hp,of_decide_eq_true h]
 ·cases h
section
variable {prog:Program} {w:World} {A:Around} {E:Value->Shared->Prop} {s:Shared}
theorem Zav {a:Addr} {vs:List Value} {n:Nat} {P:PySem.Fin->Shared->Prop} (ho:s.heap.get? a=some (seqObj "list" vs.toArray n)) (h2:vs.length<2)
  (h:∀ h' e,(∀ b o,b≠a->s.heap.get? b=some o->h'.get? b=some o)->h'.get? a=some (seqObj "list" vs.toArray e)->P (.done (.ret .none)) { s with heap:=h' }) :
  wpAny (model prog w) A (Builtin.«list.sort» ⟨[.ref a],[]⟩) P E s:=by
 obtain ⟨e1,ho1⟩:∃ e1,(s.heap.update a (Obj.mapSeq fun _=>(#[]:Array Value))).get? a=some (seqObj "list" #[] e1):=⟨_,get?_update_seq ho fun _=>#[]⟩
 have keep:∀ b o,b≠a->s.heap.get? b=some o->(((s.heap.update a (Obj.mapSeq fun _=>(#[]:Array Value))).push (seqObj "tuple" vs.toArray 0)).push (seqObj "list" #[] 0)).get? b=some o:=fun b o hb e=>by
  refine Heap.get?_push_of_some _ (Heap.get?_push_of_some _ ?_)
  rw [Heap.get?_update_ne _ _ _ _ hb]
  exact e
 have ho6:(((s.heap.update a (Obj.mapSeq fun _=>(#[]:Array Value))).push (seqObj "tuple" vs.toArray 0)).push (seqObj "list" #[] 0)).get? a=some (seqObj "list" #[] e1):=Heap.get?_push_of_some _ (Heap.get?_push_of_some _ ho1)
 rw [list_sort_plain]
 refine wpAny_bind (listItems_at ho rfl ?_)
 refine wpAny_bind (listUpdate_at ho rfl ?_ (by rw [List.size_toArray,sizeLine_eq]; exact Om.k96 h2) (Nat.zero_le _))
 refine wpAny_bind (seqEpoch_at ho1 rfl ?_)
 refine wpAny_bind (wpAny_newTuple ?_ (by show vs.length<=_; rw [sizeLine_eq]; exact Om.k96 h2))
 refine wpAny_bind (wpAny_newList ?_ (Nat.zero_le _))
 refine wpAny_holding ?_
 show wpAny (model prog w) A _ P E { s with heap:=((s.heap.update a (Obj.mapSeq fun _=>(#[]:Array Value))).push (seqObj "tuple" vs.toArray 0)).push (seqObj "list" #[] 0) }
 dsimp only
 have hn2:vs.toArray.size<2:=by rw [List.size_toArray]; assumption
 rw [if_pos hn2,if_pos hn2]
 refine wpAny_bind (wpAny_pure ?_)
 refine wpAny_bind (wpAny_pure ?_)
 have hout:Array.map (fun x:Value × Value=>x.snd) (arrOf (SortSt.mk' general' (vs.toArray.zip vs.toArray) #[] 7 none))=vs.toArray:=by
  show Array.map (fun x:Value × Value=>x.snd) (vs.toArray.zip vs.toArray)=vs.toArray
  refine Array.ext (by simp) fun i h1 h2=>?_
  simp
 refine wpAny_bind (seqEpoch_at ho6 rfl ?_)
 dsimp only
 rw [hout]
 refine wpAny_bind (listUpdate_at ho6 rfl ?_ (Nat.zero_le _) (by rw [List.size_toArray,sizeLine_eq]; exact Om.k97 h2))
 show wpAny (model prog w) A (if (e1 != e1)=true then _ else ret Value.none) P E _
 rw [if_neg (by simp)]
 obtain ⟨e2,ho7⟩:∃ e2,((((s.heap.update a (Obj.mapSeq fun _=>(#[]:Array Value))).push (seqObj "tuple" vs.toArray 0)).push (seqObj "list" #[] 0)).update a (Obj.mapSeq fun _=>vs.toArray)).get? a=some (seqObj "list" vs.toArray e2):=⟨_,get?_update_seq ho6 fun _=>vs.toArray⟩
 refine wpAny_pure (h _ e2 (fun b o hb e=>?_) ho7)
 rw [Heap.get?_update_ne _ _ _ _ hb]
 exact keep b o hb e
end
end L2
namespace L2
open PySem PySem.Spec PyProof.Rows PySem.W SeqAt
section
variable {prog:Program} {w:World} {A:Around} {E:Value->Shared->Prop} {s:Shared}
theorem Ze6 {d:Addr} {vs:List Value} {Q:Value->Shared->Prop} (hl:s.heap.IsList d vs.toArray) (h2:vs.length<2)
  (h:∀ (l:Addr) (h1 h':Heap) (e:Nat),(∀ b o,s.heap.get? b=some o->h1.get? b=some o)->h1.objs.size<=l->(∀ b o,h1.get? b=some o->h'.get? b=some o)->h'.get? l=some (seqObj "list" vs.toArray e)->Q (.ref l) { s with heap:=h' }) :
  wpAny (model prog w) A (call (.builtin "sorted") [.ref d]) Q E s:=by
 obtain ⟨o,ho,hc,n,hd⟩:=id hl
 refine Calls.call_function_entry kind_sorted plain_sorted entry_sorted (args_sorted1 _) ?_
 unfold Builtin.«sorted»
 refine wpAny_bind (m:=checkCount "sorted" 1 1 _) (wpAny_pure (wpAny_bind ?_))
 have hz:vs.toArray.size<=sizeLine:=by rw [List.size_toArray,sizeLine_eq]; exact Om.k96 h2
 refine wpAny_collect_seq (hsz:=hz) d (.inl rfl) ho hc hd fun h1 k1=>?_
 rw [List.toList_toArray]
 refine wpAny_bind (wpAny_newList ?_ (by rw [sizeLine_eq]; exact Om.k96 h2))
 have g:(h1.push (seqObj "list" vs.toArray 0)).get? h1.objs.size=some (seqObj "list" vs.toArray 0):=Heap.get?_push_size _ rfl
 refine wpAny_bind (wpAny_holding (wpAny_call_entry slot_list_sort ⟨_,g,rfl⟩ entry_list_sort (Zav g h2 fun h' e kp he=>⟨_,rfl,?_⟩) (args_list_sort _)))
 refine wpAny_pure ⟨_,rfl,h h1.objs.size h1 h' e k1 (Nat.le_refl _) (fun b o x=>?_) he⟩
 have hb:=Heap.lt_size x
 exact kp b o (Nat.ne_of_lt hb) (Heap.get?_push_of_some _ x)
end
end L2
namespace L2
open PySem PySem.Spec PyProof.Rows PySem.W
section
variable {prog:Program} {w:World} {A:Around} {E:Value->Shared->Prop} {s:Shared}
end
end L2
namespace L2
open PySem PySem.Spec PyProof.Rows
section
variable {X:Cx} {es:List Expr} {te:TE} {t:TA} {p:Pos} {e:Expr}
end
end L2
namespace L2
open PySem PySem.Spec PyProof.Rows PySem.W
noncomputable def RawD (h:Heap) (d:Addr) (es:Array DictEntry) (ep:Nat):Prop:=∃ o,h.get? d=some o/\o.ExactDict/\o.data = .dict es ep
section
variable {prog:Program} {w:World} {A:Around} {E:Value->Shared->Prop} {s:Shared} {d it:Addr} {es:Array DictEntry} {ep:Nat}
theorem RawD.ty (x:RawD s.heap d es ep):s.TypeIs (.ref d) "dict":=let ⟨o,e,c,_⟩:=x; ⟨o,e,c.1⟩
theorem RawD.keep {h h':Heap} (x:RawD h d es ep) (k:∀ o,h.get? d=some o->h'.get? d=some o):RawD h' d es ep:=let ⟨o,e,r⟩:=x; ⟨o,k o e,r⟩
theorem Zhu {Q:Value->Shared->Prop} (hs:(d==sysModules)=false) (x:RawD s.heap d es ep)
  (q:Q (.ref s.heap.objs.size) { s with heap:=s.heap.push { cls:=.type "dict_keyiterator",data:=.fields #[.ref d,.int 0 0,.int es.size 0,.int ep 0] } }):wpAny (model prog w) A (pyIter (.ref d)) Q E s:=by
 obtain ⟨o,e,c,dat⟩:=id x
 have ty:=x.ty
 refine wpAny_pyIter_slot ty F.slot_dict_iter (wpAny_call_entry F.slot_dict_iter ty F.entry_dict_iter ?_ (F.args_dict_iter_1 _))
 unfold Builtin.«dict.__iter__» Builtin.Dict.dictSlotNone
 refine wpAny_bind (wpAny_bind (wpAny_notOrdered_dict ty (wpAny_pure ?_)))
 show wpAny _ _ (Builtin.Dict.showsAll d >>= _) _ _ s
 unfold Builtin.Dict.showsAll
 rw [if_neg (by simp [hs])]
 refine wpAny_bind (wpAny_pure (wpAny_bind (wpAny_dictEntries e dat (wpAny_bind (wpAny_dictEpoch e dat ?_)))))
 refine wpAny_bind (wpAny_newObj_type (wpAny_pure ⟨_,rfl,"dict_keyiterator",_,⟨_,Heap.get?_push_size _ rfl,rfl⟩,F.slot_dict_keyiterator_next.lookup,?_⟩))
 simpa [rawInt] using q
theorem Zhv {i:Nat} {Q:Option Value->Shared->Prop} (hi:s.heap.IsKeyIter it d i es.size ep) (x:RawD s.heap d es ep) (hx:i<es.size)
  (q:∀ h',h'.IsKeyIter it d (i+1) es.size ep->Heap.SameBut it s.heap h'->Q (some es[i].key) { s with heap:=h' }):wpAny (model prog w) A (pyNext (.ref it)) Q E s:=by
 obtain ⟨o,ho,hc,hd⟩:=id hi
 obtain ⟨od,hod,_,hdd⟩:=x
 have own:Builtin.Dict_items.ownsTuple "dict_keyiterator" = false:=by decide
 have nz:¬ ((i:Int)<0):=by exact Om.k95 
 unfold pyNext
 refine wpAny_bind (wpAny_attempt (wpAny_callSpecial?_slot (name:=Str.ofString "__next__") hi.typeIs F.slot_dict_keyiterator_next (wpAny_call_entry F.slot_dict_keyiterator_next hi.typeIs F.entry_dict_keyiterator_next ?_ (F.args_dict_keyiterator_next_1 _))))
 refine wpAny_bind (wpAny_pure (wpAny_bind (wpAny_bind ?_)))
 first | refine wpAny_bind (wpAny_typeNameOfWhole_keyiter hi.typeIs (wpAny_pure (wpAny_bind (wpAny_fieldsOf ho hd ?_)))) | refine wpAny_bind (wpAny_typeNameOf_keyiter hi.typeIs (wpAny_pure (wpAny_bind (wpAny_fieldsOf ho hd ?_))))
 simp only [own,Bool.false_eq_true,if_false]
 show wpAny _ _ (if (Value.ref d==Value.none)=true then _ else _) _ _ s
 rw [if_neg (show ¬ ((Value.ref d==Value.none)=true) from nofun)]
 refine wpAny_bind (wpAny_pure (wpAny_bind (wpAny_dictEntries hod hdd ?_)))
 rw [if_neg (by simp)]
 refine wpAny_bind (wpAny_pure (wpAny_bind (wpAny_dictEpoch hod hdd ?_)))
 rw [if_neg (by simp)]
 refine wpAny_pure ?_
 simp only [nz,if_false,Int.toNat_natCast,Array.getElem?_eq_getElem hx]
 refine wpAny_bind ?_
 first | refine wpAny_bind (wpAny_typeNameOfWhole_keyiter hi.typeIs (wpAny_pure (wpAny_bind (wpAny_isOneOf_keyiter hi.typeIs ?_)))) | refine wpAny_bind (wpAny_typeNameOf_keyiter hi.typeIs (wpAny_pure (wpAny_bind (wpAny_isOneOf_keyiter hi.typeIs ?_))))
 show wpAny _ _ (setField (.ref it) 1 (rawInt ((i:Int)+1)) >>= _) _ _ s
 refine wpAny_bind (wpAny_setField ho hd (by simp) ?_)
 have hi':(s.heap.update it (Obj.mapFields (·.setIfInBounds 1 (rawInt ((i:Int)+1))))).IsKeyIter it d (i+1) es.size ep :=
  ⟨_,Heap.get?_update_self _ ho (Obj.isFreed_of_fields (Obj.data_mapFields hd _)),(Obj.cls_mapFields ..).trans hc,by rw [Obj.data_mapFields hd]; simp [rawInt]⟩
 refine wpAny_bind (wpAny_holding (wpAny_bind (wpAny_isOneOf_keyiter (s:={ s with heap:=s.heap.update it (Obj.mapFields (·.setIfInBounds 1 (rawInt ((i:Int)+1)))) }) hi'.typeIs ?_)))
 show wpAny _ _ (pure es[i].key) _ _ _
 exact wpAny_pure (wpAny_pure ⟨_,rfl,wpAny_pure (q _ hi' (Heap.SameBut.update ..))⟩)
theorem ZiH {i:Nat} {Q:Option Value->Shared->Prop} (hh:A.handled=none) (hi:s.heap.IsKeyIter it d i es.size ep) (x:RawD s.heap d es ep) (hx:es.size<=i)
  (q:∀ h',Heap.ExtBut it s.heap h'->Q none { s with heap:=h' }):wpAny (model prog w) A (pyNext (.ref it)) Q E s:=by
 obtain ⟨o,ho,hc,hd⟩:=id hi
 obtain ⟨od,hod,_,hdd⟩:=x
 have own:Builtin.Dict_items.ownsTuple "dict_keyiterator" = false:=by decide
 have nz:¬ ((i:Int)<0):=by exact Om.k95 
 unfold pyNext
 refine wpAny_bind (wpAny_attempt (wpAny_callSpecial?_slot (name:=Str.ofString "__next__") hi.typeIs F.slot_dict_keyiterator_next (wpAny_call_entry F.slot_dict_keyiterator_next hi.typeIs F.entry_dict_keyiterator_next ?_ (F.args_dict_keyiterator_next_1 _))))
 refine wpAny_bind (wpAny_pure (wpAny_bind (wpAny_bind ?_)))
 first | refine wpAny_bind (wpAny_typeNameOfWhole_keyiter hi.typeIs (wpAny_pure (wpAny_bind (wpAny_fieldsOf ho hd ?_)))) | refine wpAny_bind (wpAny_typeNameOf_keyiter hi.typeIs (wpAny_pure (wpAny_bind (wpAny_fieldsOf ho hd ?_))))
 simp only [own,Bool.false_eq_true,if_false]
 show wpAny _ _ (if (Value.ref d==Value.none)=true then _ else _) _ _ s
 rw [if_neg (show ¬ ((Value.ref d==Value.none)=true) from nofun)]
 refine wpAny_bind (wpAny_pure (wpAny_bind (wpAny_dictEntries hod hdd ?_)))
 rw [if_neg (by simp)]
 refine wpAny_bind (wpAny_pure (wpAny_bind (wpAny_dictEpoch hod hdd ?_)))
 rw [if_neg (by simp)]
 refine wpAny_pure ?_
 simp only [nz,if_false,Int.toNat_natCast,Array.getElem?_eq_none hx]
 refine wpAny_bind ?_
 first | refine wpAny_bind (wpAny_typeNameOfWhole_keyiter hi.typeIs (wpAny_pure ?_)) | refine wpAny_bind (wpAny_typeNameOf_keyiter hi.typeIs (wpAny_pure ?_))
 show wpAny _ _ (setField (.ref it) 0 .none >>= _) _ _ s
 refine wpAny_bind (wpAny_setField ho hd (by simp) ?_)
 show wpAny _ _ (newExc (.type "StopIteration") [] >>= _) _ _ _
 refine wpAny_bind ?_
 simp only [newExc,newTuple]
 refine wpAny_bind (wpAny_newObj_type (wpAny_bind (m:=firstArgMember _ _) (wpAny_of_eq (a:=Value.none) (by first | rfl | (simp only [firstArgMember]; rfl)) ?_)) (by size_fits))
 refine wpAny_newObj_type ?_ (by size_fits)
 simp only [raiseNew]
 refine wpAny_bind (wpAny_handled ?_)
 rw [show A.in1.handled=none from hh]
 refine wpAny_bind (wpAny_pure (wpAny_throw ?_))
 refine wpAny_bind (wpAny_isInstance (b:=true) (T:="StopIteration") ⟨_,Heap.get?_push_size _ rfl,rfl⟩ isSubtype_stop ?_)
 exact wpAny_pure (q _ (((Heap.SameBut.update ..).extBut.push _).push _))
theorem Zgs (hh:A.handled=none) (it d:Addr) (ne:d≠it) (es:Array DictEntry) (ep:Nat) :
  Walks prog w A it [it,d] [it] es.size (fun i v=>∃ h:i<es.size,v=es[i].key) (fun i h=>h.IsKeyIter it d i es.size ep/\RawD h d es ep) where
 sub:=fun b hb=>by rw [List.mem_singleton.mp hb]; exact List.mem_cons_self
 frame:=fun _ _ _ st hk=>⟨st.1.at fun o e=>hk it (by simp) o e,st.2.keep fun o e=>hk d (by simp) o e⟩
 item:=fun i s Q E hi st q=>Zhv st.1 st.2 hi fun h' a b=>q _ h' s.toks ⟨hi,rfl⟩ ⟨a,st.2.keep fun o e=>b.extBut d o ne e⟩ fun b' o hb e=>b.extBut b' o (fun z=>hb (by simp [z])) e
 done:=fun s Q E st q=>ZiH hh st.1 st.2 (Nat.le_refl _) fun h' he=>q h' s.toks fun b o hb e=>he b o (fun z=>hb (by simp [z])) e
 self:=fun _ _ _ _ st q=>wpAny_pyIter_keyiter st.1 q
noncomputable def Yd (es:Array DictEntry):List Value:=es.toList.map (·.key)
theorem ZcA {acc:Array Value} (h:ItemsOf (fun i v=>∃ h:i<es.size,v=es[i].key) acc es.size):acc.toList=Yd es:=by
 unfold Yd
 refine List.ext_getElem (by simp [h.1]) fun i h1 h2=>?_
 obtain ⟨h3,e⟩:=h.2 i acc[i] (by simp)
 simp [e]
theorem Zd2 {Q:List Value->Shared->Prop} (hh:A.handled=none) (hs:(d==sysModules)=false) (x:RawD s.heap d es ep) (hn:es.size<=1000)
  (q:∀ h' tk,(∀ b o,s.heap.get? b=some o->h'.get? b=some o)->Q (Yd es) { s with heap:=h',toks:=tk }):wpAny (model prog w) A (collect (.ref d)) Q E s:=by
 have ty:=x.ty
 have hdlt:d<s.heap.objs.size:=let ⟨o,e,_⟩:=x; Heap.lt_size e
 unfold collect
 refine wpAny_bind (wpAny_runValue (codeAny_builtin F.entry_proto_collect ?_))
 rw [Around.under_plainId F.plain_proto_collect _]
 show wpAny _ A.in1 (newList [] >>= fun l=>again (.builtin "list.__iadd__" ⟨[l,.ref d],[]⟩)) _ _ s
 refine wpAny_bind (wpAny_newObj_type (wpAny_pure ⟨plainId_quiet F.plain_list_iadd _,codeAny_builtin F.entry_list_iadd ?_⟩))
 rw [Around.under_plainId F.plain_list_iadd _]
 have x1:RawD (s.heap.push { cls:=.type "list",data:=.seq ([]:List Value).toArray }) d es ep:=x.keep fun o e=>Heap.get?_push_of_some _ e
 have hS1:(s.heap.push { cls:=.type "list",data:=.seq ([]:List Value).toArray }).get? s.heap.objs.size=some { cls:=.type "list",data:=.seq ([]:List Value).toArray }:=Heap.get?_push_size _ rfl
 have sz1:(s.heap.push { cls:=.type "list",data:=.seq ([]:List Value).toArray }).objs.size=s.heap.objs.size+1:=Heap.size_push ..
 show wpAny _ A.in1 (Builtin.List.listExtendWith (.ref s.heap.objs.size) (.ref d) (.ref s.heap.objs.size)) _ _ _
 unfold Builtin.List.listExtendWith
 refine wpAny_bind (wpAny_typeOf (RawD.ty (s:={ s with heap:=s.heap.push { cls:=.type "list",data:=.seq ([]:List Value).toArray } }) x1) ?_)
 have e1:Builtin.List.listSameRef (.ref s.heap.objs.size) (.ref d)=false:=by simp [Builtin.List.listSameRef,Nat.ne_of_gt hdlt]
 have e2:(Value.type "dict" == Value.type "list")=false:=by decide
 have e3:(Value.type "dict" == Value.type "tuple")=false:=by decide
 simp only [e1,e2,e3,Bool.or_false,Bool.false_eq_true,if_false]
 refine wpAny_bind (Zhu hs x1 ?_)
 rw [sz1]
 refine wpAny_bind (wpAny_holding (ZgP (let ⟨o,e,c,_⟩:=x1; ⟨o,Heap.get?_push_of_some _ e,c.1⟩) ?_))
 refine wpAny_ite_split (fun _=>?_) (fun hab=>absurd (by decide +kernel) hab)
 refine wpAny_bind (wpAny_rule (wpAny_bind ?_))
 have hS2:=Heap.get?_push_of_some { cls:=.type "dict_keyiterator",data:=.fields #[.ref d,.int 0 0,.int es.size 0,.int ep 0] } hS1
 show wpAny _ _ (updateSeq s.heap.objs.size (·.push .none) >>= fun _=>updateSeq s.heap.objs.size (·.pop)) _ _ _
 refine wpAny_bind (wpAny_updateSeq hS2 rfl ?_)
 have hS3:=Heap.get?_update_self (Obj.mapSeq (·.push Value.none)) hS2 rfl
 refine wpAny_updateSeq (hz:=by seq_fits) hS3 rfl ?_
 have hS4:=Heap.get?_update_self (Obj.mapSeq (·.pop)) hS3 rfl
 have oth:∀ b o,b≠s.heap.objs.size->((s.heap.push { cls:=.type "list",data:=.seq ([]:List Value).toArray }).push { cls:=.type "dict_keyiterator",data:=.fields #[.ref d,.int 0 0,.int es.size 0,.int ep 0] }).get? b=some o ->
   ((((s.heap.push { cls:=.type "list",data:=.seq ([]:List Value).toArray }).push { cls:=.type "dict_keyiterator",data:=.fields #[.ref d,.int 0 0,.int es.size 0,.int ep 0] }).update s.heap.objs.size (Obj.mapSeq (·.push Value.none))).update s.heap.objs.size (Obj.mapSeq (·.pop))).get? b=some o :=
  fun b o hb e=>(Heap.get?_update_other _ _ (Ne.symm hb)).trans ((Heap.get?_update_other _ _ (Ne.symm hb)).trans e)
 have hit:((s.heap.push { cls:=.type "list",data:=.seq ([]:List Value).toArray }).push { cls:=.type "dict_keyiterator",data:=.fields #[.ref d,.int 0 0,.int es.size 0,.int ep 0] }).get? (s.heap.objs.size+1)=some { cls:=.type "dict_keyiterator",data:=.fields #[.ref d,.int 0 0,.int es.size 0,.int ep 0] }:=by
  rw [<- sz1]
  exact Heap.get?_push_size _ rfl
 refine wpAny_pure ⟨plainId_quiet F.plain_extend_loop _,codeAny_extend_loopS (Zgs (prog:=prog) (w:=w) (A:=A.in1) (by simpa using hh) (s.heap.objs.size+1) d (Nat.ne_of_lt (Nat.lt_succ_of_lt hdlt)) es ep).toS (by rw [sizeLine_eq]; exact Om.b1 ‹_› rfl) s.heap.objs.size ?_ _ es.size 0 _ #[] _ rfl (Nat.zero_le _)
  ⟨⟨_,oth _ _ (Nat.succ_ne_self _) hit,rfl,rfl⟩,x1.keep fun o e=>oth d o (Nat.ne_of_lt hdlt) (Heap.get?_push_of_some _ e)⟩ hS4 (ItemsOf.nil _) fun s' acc c' hm hS' hacc=>?_⟩
 ·intro hm
  rcases List.mem_cons.mp hm with e | hm
  ·exact Nat.succ_ne_self _ e.symm
  ·exact Nat.ne_of_gt hdlt (List.mem_singleton.mp hm)
 show wpAny _ A (load s.heap.objs.size >>= _) _ _ s'
 refine wpAny_bind (wpAny_load hS' ?_)
 have ek:acc.toList=Yd es:=ZcA hacc
 refine wpAny_pure ?_
 show Q acc.toList s'
 rw [ek,Moved.eq_with hm]
 refine q s'.heap s'.toks fun b o e=>hm.heap b o (fun hmem=>?_) (oth b o (Nat.ne_of_lt (Heap.lt_size e)) (Heap.get?_push_of_some _ (Heap.get?_push_of_some _ e)))
 rcases List.mem_cons.mp hmem with z | hmem
 ·exact absurd (Heap.lt_size e) (by rw [z]; exact Nat.lt_irrefl _)
 ·exact absurd (Heap.lt_size e) (by rw [List.mem_singleton.mp hmem]; exact Nat.not_succ_lt_self)
theorem Zd0 {vs:List Value} {S:List (List Int)} {k:Nat} {Q:Value->Shared->Prop} (hh:A.handled=none) (hs:(d==sysModules)=false) (x:RawD s.heap d es ep) (ht:Zg2 s.heap (Yd es) S) (hk:∀ r∈S,r.length=k) (hk0:0<k)
  (h64:(Yd es).length<64) (hR:∀ i j,i<S.length->j<S.length->JX (S.getD i []) (S.getD j [])=decide (i<j))
  (h:∀ (l:Addr) (h1 h':Heap) (e tk:Nat),(∀ b o,s.heap.get? b=some o->h1.get? b=some o)->h1.objs.size<=l->(∀ b o,h1.get? b=some o->h'.get? b=some o)->h'.get? l=some (seqObj "list" (Yd es).toArray e)->Q (.ref l) { s with heap:=h',toks:=tk }) :
  wpAny (model prog w) A (call (.builtin "sorted") [.ref d]) Q E s:=by
 have hlen:(Yd es).length=S.length:=Paired.length ht
 refine Calls.call_function_entry kind_sorted plain_sorted entry_sorted (args_sorted1 _) ?_
 unfold Builtin.«sorted»
 refine wpAny_bind (m:=checkCount "sorted" 1 1 _) (wpAny_pure (wpAny_bind ?_))
 refine Zd2 (by simpa using hh) hs x (by have:(Yd es).length=es.size:=(by simp [Yd]); omega) fun h1 tk k1=>?_
 refine wpAny_bind (wpAny_newList ?_ (by rw [sizeLine_eq]; exact Om.k94 h64 hlen))
 have g:(h1.push (seqObj "list" (Yd es).toArray 0)).get? h1.objs.size=some (seqObj "list" (Yd es).toArray 0):=Heap.get?_push_size _ rfl
 have ht1:Zg2 (h1.push (seqObj "list" (Yd es).toArray 0)) (Yd es) S:=Paired.mapP ht fun v r ⟨b,o,us,m,e,g,c,d,iu⟩=>⟨b,o,us,m,e,Heap.get?_push_of_some _ (k1 _ _ g),c,d,iu⟩
 by_cases h2:(Yd es).length<2
 ·refine wpAny_bind (wpAny_holding (wpAny_call_entry slot_list_sort ⟨_,g,rfl⟩ entry_list_sort (Zav g h2 fun h' e kp he=>⟨_,rfl,?_⟩) (args_list_sort _)))
  refine wpAny_pure ⟨_,rfl,h h1.objs.size h1 h' e tk k1 (Nat.le_refl _) (fun b o x=>?_) he⟩
  have hb:=Heap.lt_size x
  exact kp b o (Nat.ne_of_lt hb) (Heap.get?_push_of_some _ x)
 ·have hp:ZaA (Yd es).length (fun i j=>JX (S.getD i []) (S.getD j [])) (kas_sort (Yd es).length)=some (Array.range (Yd es).length):=by
   rw [<- Zhd h64 (show 2<=(Yd es).length by exact Om.k93 h64 hlen h2)]
   exact Zb0 (fun i j hi hj=>hR i j (by exact Om.a2 ‹_› ‹_›) (by exact Om.a2 ‹_› ‹_›)) _
  refine wpAny_bind (wpAny_holding (wpAny_call_entry slot_list_sort ⟨_,g,rfl⟩ entry_list_sort (Zcc g ht1 hk hk0 (by exact Om.k93 h64 hlen h2) h64 hp ⟨_,rfl,?_⟩) (args_list_sort _)))
  have eo:((Array.range (Yd es).length).toList.map fun i=>(Yd es).getD i Value.none)=Yd es:=by
   rw [Array.toList_range]
   refine List.ext_getElem (by simp) fun i g1 g2=>?_
   simp [List.getD_eq_getElem?_getD,g2]
  obtain ⟨e,he⟩:=sortedHeap_at (out:=List.toArray ((Array.range (Yd es).length).toList.map fun i=>(Yd es).getD i Value.none)) g
  rw [eo] at he
  refine wpAny_pure ⟨_,rfl,h h1.objs.size h1 _ e tk k1 (Nat.le_refl _) (fun b o x=>?_) (by rw [eo]; exact he)⟩
  have hb:=Heap.lt_size x
  rw [sortedHeap_old (Nat.ne_of_lt hb) (by rw [size_push']; exact Nat.lt_succ_of_lt hb)]
  exact Heap.get?_push_of_some _ x
end
noncomputable def Zgu:List V->Hp->VK->Prop:=fun xs H Q=>∃ (d:Addr) (kvs:List (List Key × V)) (S:List (List Int)) (k:Nat),xs=[.ref d]/\H d=some (.dT kvs)/\kvs.map (·.1)=S.map (fun r=>r.map Sum.inl)/\(∀ r∈S,r.length=k)/\0<k/\S.length<64 /\
 (∀ i j,i<S.length->j<S.length->JX (S.getD i []) (S.getD j [])=decide (i<j))/\∀ (l:Addr) (qs:List Addr),H l=none->Paired (fun q (r:List Int)=>H q=some (.tup (r.map V.int))) qs S->Q (.ref l) (upd H l (.lst (qs.map V.ref)))
theorem ZcF {X:Cx} (hc:X.calm=true):JV X (.builtin "sorted") Zgu:=by
 intro pins s σ H xs us Q I r h
 obtain ⟨d,kvs,S,k,rfl,hd,hks,hk,hk0,h64,hR,q⟩:=h
 obtain ⟨u,rfl,rx⟩:=ZaG r
 cases rx
 obtain ⟨z,hsm,xs,rel,o,es,ep,e1,e2,e3,e4,_⟩:=(show ObjOk X.prog X.w H s.heap d (.dT kvs) from I.hok d _ hd)
 have tup:∀ {kvs:List (List Key × V)} {xs:List (List Key × Addr × Value)} {S:List (List Int)},Paired (fun (p:List Key × V) (q:List Key × Addr × Value)=>p.1=q.1/\H q.2.1=some (.tup (p.1.map kV))/\RelV p.2 q.2.2) kvs xs->kvs.map (·.1)=S.map (fun r=>r.map Sum.inl) ->
   Paired (fun q (r:List Int)=>H q=some (.tup (r.map V.int))) (xs.map fun x=>x.2.1) S:=by
  intro kvs xs S hP
  induction hP generalizing S with
  | nil=>intro e; cases S with
   | nil=>exact .nil
   | cons=>cases e
  | @cons p x ps xs hx _ ih =>
   intro e
   cases S with
   | nil=>cases e
   | cons r S =>
    rw [List.map_cons,List.map_cons] at e
    injection e with ea eb
    refine .cons ?_ (ih eb)
    show H x.2.1=_
    rw [hx.2.1,ea,List.map_map]
    rfl
 have hP:=tup rel hks
 have ek:Yd es=(xs.map fun x=>x.2.1).map Value.ref:=by
  unfold Yd
  rw [e4,List.map_map,List.map_map]
  rfl
 have tups:∀ {qs:List Addr} {S:List (List Int)},Paired (fun q (r:List Int)=>H q=some (.tup (r.map V.int))) qs S->Zg2 s.heap (qs.map Value.ref) S:=by
  intro qs S hP
  induction hP with
  | nil=>exact .nil
  | @cons q r qs S hq _ ih =>
   refine .cons ?_ ih
   obtain ⟨_,us,ru,o,g,c,m,e⟩:=I.hok q _ hq
   exact ⟨q,o,us,m,rfl,g,c,congrArg Prod.fst e,Zcf ru⟩
 have hl:(xs.map fun x=>x.2.1).length=S.length:=hP.length
 refine Zd0 (vs:=[]) (I.ok.hd hc) hsm ⟨o,e1,e2,e3⟩ (by rw [ek]; exact tups hP) hk hk0 (by rw [ek,List.length_map,hl]; exact h64) hR fun l h1 h' e tk k1 hl1 k2 he=>?_
 have I1:Inv X pins σ H { s with heap:=h1 }:=I.kept (t':=s.toks) k1
 refine ⟨.ref l,_,I1.laid (t':=tk) (o:=.lst ((xs.map fun x=>x.2.1).map V.ref)) k2 hl1 ⟨?_,Yd es,e,?_,by simpa using he⟩,rfl,q l _ (I1.hok.fresh hl1) hP⟩
 ·rw [List.length_map,hl,sizeLine_eq]
  exact Om.k92 h64 hl
 ·rw [ek]
  have go:∀ qs:List Addr,Vals (qs.map V.ref) (qs.map Value.ref):=by
   intro qs
   induction qs with
   | nil=>exact .nil
   | cons q qs ih=>exact .cons rfl ih
  exact go _
end L2
namespace My
open PySem L2
noncomputable def Yw (B:List (List V)) (r j:Nat):List (Nat × Nat):=(Ya j fun c=>decide (at2 B r c = .non)).map fun c=>(r,c)
noncomputable def Z3 (n:Nat) (B:List (List V)) (i:Nat):List (Nat × Nat):=(List.range i).flatMap fun r=>Yw B r n
noncomputable def cellOf (n:Nat) (B:List (List V)) (rc:Nat × Nat):Ch:=⟨"cell",rc.1,rc.2,Z1 n B rc.1 rc.2⟩
theorem ZgX (n:Nat) (B:List (List V)) (i:Nat):YC n B i=(Z3 n B i).map (cellOf n B):=by
 unfold YC Z3
 rw [List.map_flatMap]
 congr
 funext r
 unfold YW Yw
 rw [List.map_map]
 rfl
theorem Zbx (B:List (List V)) (r j:Nat):Yw B r (j+1)=Yw B r j++(if at2 B r j = .non then [(r,j)] else []):=by
 unfold Yw
 rw [Zab,List.map_append]
 by_cases h:at2 B r j = .non <;> simp [h]
theorem mem_empRow {B:List (List V)} {r j a b:Nat}:(a,b)∈Yw B r j↔a=r/\b<j/\at2 B r b = .non:=by
 unfold Yw
 constructor
 ·intro h
  obtain ⟨c,hc,e⟩:=List.mem_map.mp h
  have hm:=mem_rangeF.mp hc
  injection e with e1 e2
  subst e1 e2
  exact ⟨rfl,hm.1,of_decide_eq_true hm.2⟩
 ·rintro ⟨rfl,h1,h2⟩
  exact List.mem_map.mpr ⟨b,mem_rangeF.mpr ⟨h1,decide_eq_true h2⟩,rfl⟩
theorem mem_empTo {n:Nat} {B:List (List V)} {i a b:Nat}:(a,b)∈Z3 n B i↔a<i/\b<n/\at2 B a b = .non:=by
 unfold Z3
 constructor
 ·intro h
  obtain ⟨r,hr,hm⟩:=List.mem_flatMap.mp h
  obtain ⟨rfl,h1,h2⟩:=mem_empRow.mp hm
  exact ⟨List.mem_range.mp hr,h1,h2⟩
 ·rintro ⟨h0,h1,h2⟩
  exact List.mem_flatMap.mpr ⟨a,List.mem_range.mpr h0,mem_empRow.mpr ⟨rfl,h1,h2⟩⟩
theorem Zik (n:Nat) (B:List (List V)) (i:Nat):(Z3 n B i).Pairwise fun a b=>a.1<b.1\/(a.1=b.1/\a.2<b.2):=by
 unfold Z3
 refine List.pairwise_flatMap.mpr ⟨fun r _=>?_,?_⟩
 ·unfold Yw Ya
  exact List.Pairwise.map _ (fun a b h=>Or.inr ⟨rfl,h⟩) (List.Pairwise.filter _ List.pairwise_lt_range)
 ·refine List.Pairwise.imp ?_ List.pairwise_lt_range
  intro a b hab x hx y hy
  obtain ⟨x1,x2⟩:=x
  obtain ⟨y1,y2⟩:=y
  obtain ⟨rfl,_⟩:=mem_empRow.mp hx
  obtain ⟨rfl,_⟩:=mem_empRow.mp hy
  exact Or.inl hab
noncomputable def Zay (rc:Nat × Nat):List Int:=[(rc.1:Int),(rc.2:Int)]
theorem ZhY (a b:Nat × Nat):JX (Zay a) (Zay b)=if a.1=b.1 then decide (a.2<b.2) else decide (a.1<b.1):=by
 unfold Zay
 show (if (a.1:Int)=(b.1:Int) then (if (a.2:Int)=(b.2:Int) then JX [] [] else decide ((a.2:Int)<(b.2:Int))) else decide ((a.1:Int)<(b.1:Int)))=_
 by_cases h:a.1=b.1
 ·rw [if_pos h,if_pos (by exact Om.k91 h)]
  by_cases h2:a.2=b.2
  ·rw [if_pos (by exact Om.k91 h2)]
   exact (decide_eq_false (by exact Om.k90 h2)).symm
  ·rw [if_neg (by exact Om.k89 h2)]
   exact decide_eq_decide.mpr (by exact Om.k88 )
 ·rw [if_neg h,if_neg (by exact Om.k89 h)]
  exact decide_eq_decide.mpr (by exact Om.k88 )
theorem Zji (n:Nat) (B:List (List V)) (k:Nat) (i j:Nat) (hi:i<((Z3 n B k).map Zay).length) (hj:j<((Z3 n B k).map Zay).length) :
  JX (((Z3 n B k).map Zay).getD i []) (((Z3 n B k).map Zay).getD j [])=decide (i<j):=by
 rw [List.length_map] at hi hj
 have g:∀ m (hm:m<(Z3 n B k).length),((Z3 n B k).map Zay).getD m []=Zay (Z3 n B k)[m]:=fun m hm=>by
  rw [List.getD_eq_getElem?_getD,List.getElem?_map,List.getElem?_eq_getElem hm]
  rfl
 rw [g i hi,g j hj,ZhY]
 have p:=List.pairwise_iff_getElem.mp (Zik n B k)
 rcases Nat.lt_trichotomy i j with h | h | h
 ·rw [decide_eq_true h]
  rcases p i j hi hj h with z | ⟨z1,z2⟩
  ·rw [if_neg (by exact Om.k87 hi hj z)]
   exact decide_eq_true z
  ·rw [if_pos z1]
   exact decide_eq_true z2
 ·subst h
  rw [if_pos rfl,decide_eq_false (Nat.lt_irrefl _),decide_eq_false (Nat.lt_irrefl _)]
 ·rw [decide_eq_false (Nat.lt_asymm h)]
  rcases p j i hj hi h with z | ⟨z1,z2⟩
  ·rw [if_neg (by exact Om.k86 hi hj z)]
   exact decide_eq_false (by exact Om.k85 hi hj z)
  ·rw [if_pos z1.symm]
   exact decide_eq_false (by exact Om.k85 hi hj z2)
theorem ZfZ (n:Nat) (B:List (List V)) (i:Nat):(Z3 n B i).length<=i*n:=ZaW _ n (fun r=>by unfold Yw; rw [List.length_map]; exact ZW _ _) i
noncomputable def Jh (rc:Nat × Nat):List Key:=[Sum.inl (rc.1:Int),Sum.inl (rc.2:Int)]
theorem Zej {a b:Nat × Nat} (h:Jh a=Jh b):a=b:=by
 unfold Jh at h
 injection h with h1 h2
 injection h1 with h1
 injection h2 with h2 _
 injection h2 with h2
 exact Prod.ext (by exact Om.e1 ‹_›) (by exact Om.e1 ‹_›)
noncomputable def Yq:List (Nat × Nat)->List Addr->List (List Key × V)
 | rc::es,m::ms=>(Jh rc,.ref m)::Yq es ms
 | _,_=>[]
theorem Zei (rc:Nat × Nat) (m:Addr):∀ {es:List (Nat × Nat)} {ms:List Addr},es.length=ms.length->Yq (es++[rc]) (ms++[m])=Yq es ms++[(Jh rc,.ref m)]
 | [],[],_=>rfl
 | [],_::_,h=>by cases h
 | _::_,[],h=>by cases h
 | e::es,x::ms,h=>by
  show (Jh e,V.ref x)::Yq (es++[rc]) (ms++[m])=(Jh e,V.ref x)::(Yq es ms++[(Jh rc,.ref m)])
  rw [Zei rc m (Nat.succ.inj h)]
theorem Zcd:∀ {es:List (Nat × Nat)} {ms:List Addr},es.length=ms.length->(Yq es ms).map (·.1)=es.map Jh
 | [],[],_=>rfl
 | [],_::_,h=>by cases h
 | _::_,[],h=>by cases h
 | e::es,x::ms,h=>by
  show Jh e::(Yq es ms).map (·.1)=Jh e::es.map Jh
  rw [Zcd (Nat.succ.inj h)]
theorem ZdD {F:Addr->Nat × Nat->Prop} (rc:Nat × Nat):∀ {ms:List Addr} {es:List (Nat × Nat)},Paired F ms es->(rc∈es->∃ m,Zaz (Yq es ms) (Jh rc)=some (.ref m)/\F m rc)/\(rc∉es->Zaz (Yq es ms) (Jh rc)=none)
 | _,_,.nil=>⟨fun h=>(nomatch h),fun _=>rfl⟩
 | m::ms,e::es,.cons h t=>by
  have ih:=ZdD rc t
  by_cases he:e=rc
  ·subst he
   refine ⟨fun _=>⟨m,?_,h⟩,fun hn=>absurd List.mem_cons_self hn⟩
   show ((Yq (e::es) (m::ms)).find? _).map _=_
   unfold Yq
   rw [List.find?_cons_of_pos (by simp)]
   rfl
  ·have hk:¬ Jh e=Jh rc:=fun z=>he (Zej z)
   have hv:Zaz (Yq (e::es) (m::ms)) (Jh rc)=Zaz (Yq es ms) (Jh rc):=by
    show ((Yq (e::es) (m::ms)).find? _).map _=((Yq es ms).find? _).map _
    rw [Yq,List.find?_cons_of_neg (by simpa using hk)]
   rw [hv]
   refine ⟨fun hm=>ih.1 ?_,fun hn=>ih.2 fun z=>hn (List.mem_cons_of_mem _ z)⟩
   rcases List.mem_cons.mp hm with z | z
   ·exact absurd z.symm he
   ·exact z
theorem Zi7 {es:List (Nat × Nat)} {ms:List Addr} {rc:Nat × Nat} {v:V} (hl:es.length=ms.length) (hn:rc∉es):Za9 (Yq es ms) (Jh rc) v=Yq es ms++[(Jh rc,v)]:=by
 unfold Za9
 rw [if_neg]
 intro h
 obtain ⟨kv,hm,e⟩:=List.any_eq_true.mp h
 have e':=of_decide_eq_true e
 have:Jh rc∈(Yq es ms).map (·.1):=List.mem_map.mpr ⟨kv,hm,e'⟩
 rw [Zcd hl] at this
 obtain ⟨r2,h2,e2⟩:=List.mem_map.mp this
 exact hn (Zej e2 ▸ h2)
theorem ZfR:∀ {es:List (Nat × Nat)} {ms:List Addr},es.length=ms.length->(Yq es ms).length=es.length
 | [],[],_=>rfl
 | [],_::_,h=>by cases h
 | _::_,[],h=>by cases h
 | e::es,x::ms,h=>by
  show (Yq es ms).length+1=es.length+1
  rw [ZfR (Nat.succ.inj h)]
noncomputable def DOk (N:Addr->Prop) (n:Nat) (B:List (List V)) (H:Hp) (d:Addr) (es:List (Nat × Nat)):Prop:=∃ ms:List Addr,H d=some (.dT (Yq es ms))/\Paired (fun m rc=>N m/\H m=some (.lst (ZP (Z1 n B rc.1 rc.2)))) ms es
section
variable {N M:Addr->Prop} {n:Nat} {B:List (List V)} {H H':Hp} {d:Addr} {es:List (Nat × Nat)}
theorem DOk.same (x:DOk N n B H d es) (e:Same H H'):DOk N n B H' d es:=let ⟨ms,h1,h2⟩:=x; ⟨ms,e _ _ h1,Paired.mapP h2 fun _ _ z=>⟨z.1,e _ _ z.2⟩⟩
theorem DOk.imp (x:DOk N n B H d es) (e:∀ m u,N m->H m=some u->M m):DOk M n B H d es:=let ⟨ms,h1,h2⟩:=x; ⟨ms,h1,Paired.mapP h2 fun m _ z=>⟨e m _ z.1 z.2,z.2⟩⟩
theorem DOk.put {l:Addr} {ys zs:List V} (x:DOk N n B H d es) (hN:∀ m,N m->m≠l) (hl:H l=some (.lst ys)):DOk N n B (upd H l (.lst zs)) d es :=
 let ⟨ms,h1,h2⟩:=x
 ⟨ms,by rw [Zh (Yi h1 hl (by intro z; cases z))]; exact h1,Paired.mapP h2 fun m _ z=>⟨z.1,by rw [Zh (hN m z.1)]; exact z.2⟩⟩
theorem DOk.get (x:DOk N n B H d es) {r c:Nat} {b:Addr} (hm:(r,c)∈es) (hb:H b=some (.tup [.int (r:Int),.int (c:Int)])):∃ m,N m/\H m=some (.lst (ZP (Z1 n B r c)))/\DGet H d (.ref b) (some (.ref m)):=by
 obtain ⟨ms,h1,h2⟩:=x
 obtain ⟨m,e,hN,hv⟩:=(ZdD (r,c) h2).1 hm
 refine ⟨m,hN,hv,?_⟩
 rw [<- e]
 exact DGet.t (k:=Jh (r,c)) h1 hb
theorem DOk.no (x:DOk N n B H d es) {r c:Nat} {b:Addr} (hm:(r,c)∉es) (hb:H b=some (.tup [.int (r:Int),.int (c:Int)])):DGet H d (.ref b) none:=by
 obtain ⟨ms,h1,h2⟩:=x
 rw [<- (ZdD (r,c) h2).2 hm]
 exact DGet.t (k:=Jh (r,c)) h1 hb
end
theorem ZdK (a b:Int):eqV (.int a) (.int b)=decide (a=b):=by
 first | rfl | (unfold eqV; simp) | (simp [eqV])
theorem Zbg (t:Nat) (l:List Nat):inV (.int (t:Int)) (ZP l)=decide (t∈l):=by
 unfold inV ZP
 rw [List.any_map]
 induction l with
 | nil=>rfl
 | cons x l ih =>
  rw [List.any_cons,ih]
  show (eqV (.int (x:Int)) (.int (t:Int))||decide (t∈l))=_
  rw [ZdK]
  by_cases h:x=t
  ·subst h; simp
  ·have h':¬ t=x:=fun z=>h z.symm
   have h2:¬ (x:Int)=(t:Int):=by exact Om.k84 h'
   simp [h',h2]
theorem Zi9 (v:V) (a b:List V):inV v (a++b)=(inV v a||inV v b):=by
 unfold inV
 rw [List.any_append]
theorem ZdU {n:Nat} {B:List (List V)} {c:Nat} (hc:c<n):Zj (ZC n B) c=(List.range n).map fun r=>at2 B r c:=by
 unfold Zj ZC
 rw [List.getElem?_map,List.getElem?_range hc]
 rfl
theorem Ji {n:Nat} {B:List (List V)} {r c t:Nat} (hc:c<n) (ht:t<n):decide (t∈Z1 n B r c)=(!inV (.int (t:Int)) (Zj B r) && !inV (.int (t:Int)) (Zj (ZC n B) c)):=by
 rw [ZdU hc]
 have e:(t∈Z1 n B r c)↔(!inV (.int (t:Int)) (Z4 n B r c))=true:=by
  unfold Z1
  rw [mem_rangeF]
  exact ⟨fun h=>h.2,fun h=>⟨ht,h⟩⟩
 have e2:decide (t∈Z1 n B r c) = !inV (.int (t:Int)) (Z4 n B r c):=by
  cases hb:(!inV (.int (t:Int)) (Z4 n B r c)) with
  | true=>exact decide_eq_true (e.mpr hb)
  | false=>exact decide_eq_false fun z=>by rw [e.mp z] at hb; cases hb
 rw [e2]
 unfold Z4
 rw [Zi9,Bool.not_or]
theorem ZaM {n:Nat} {p q:Nat->Bool} (h:∀ i,i<n->p i=q i):Ya n p=Ya n q:=by
 unfold Ya
 exact List.filter_congr fun i hi=>h i (List.mem_range.mp hi)
theorem Zhs {n:Nat} {B:List (List V)} {r t:Nat} (ht:t<n) (hn:(!inV (.int (t:Int)) (Zj B r))=true) :
  (Ya n fun c=>decide (at2 B r c = .non)&&decide (t∈Z1 n B r c))=plN n (Zj B r) (ZC n B) t:=by
 unfold plN
 refine ZaM fun c hc=>?_
 rw [Ji hc ht,hn,Bool.true_and]
 rfl
theorem Zio {n:Nat} {B:List (List V)} {c t:Nat} (hc:c<n) (ht:t<n) (hn:(!inV (.int (t:Int)) (Zj (ZC n B) c))=true) :
  (Ya n fun r=>decide (at2 B r c = .non)&&decide (t∈Z1 n B r c))=plN n (Zj (ZC n B) c) B t:=by
 unfold plN
 refine ZaM fun r hr=>?_
 rw [Ji hc ht,hn,Bool.and_true]
 have:(Zj (ZC n B) c).getD r .non=at2 B r c:=Yh hr hc
 rw [this]
end My
namespace My
open PySem L2
noncomputable def YS (nm:Str) (n:Nat) (L Cr:List (List V)) (i j:Nat):List Ch:=YJ nm n L Cr i (Ya j fun t=>!inV (.int (t:Int)) (Zj L i))
theorem Ja (nm:Str) (n:Nat) (L Cr:List (List V)) (i j:Nat):YS nm n L Cr i (j+1)=YS nm n L Cr i j++(if (!inV (.int (j:Int)) (Zj L i))=true then [⟨nm,i,j,plN n (Zj L i) Cr j⟩] else []):=by
 unfold YS YJ
 rw [Zab,List.map_append]
 cases h:(!inV (.int (j:Int)) (Zj L i)) <;> rfl
theorem Zbl (nm:Str) (n:Nat) (L Cr:List (List V)) (i j:Nat):(YS nm n L Cr i j).length<=j:=by
 unfold YS YJ
 rw [List.length_map]
 exact ZW _ _
theorem Zbs (nm:Str) (n:Nat) (L Cr:List (List V)) (i:Nat):ZX nm n L Cr (i+1)=ZX nm n L Cr i++YS nm n L Cr i n:=by
 unfold ZX
 rw [Zas]
 rfl
theorem Zci (l:List Nat):(ZP l).all ZK=true:=List.all_eq_true.mpr fun v hv=>by
 obtain ⟨t,_,rfl⟩:=List.mem_map.mp hv
 rfl
inductive Zcw (K:PySem.W.Frag) (vs:List V) (H:Hp) (Q:VK):Prop where
 | mk (a:Addr) (n:Nat) (B:List (List V)) (_:vs=[.ref a]) (_:GridT H a B) (_:Sq n B) (_:n<=6) (_:∀ l H',Same H H'->ChL (fun m=>H m=none) H' l (ZV n B)->Q (.ref l) H'):Zcw K vs H Q
noncomputable def ZcN (K:PySem.W.Frag):Sp:=fun vs H Q _=>Zcw K vs H Q
section
variable {P:Program} {w:World} {K:PySem.W.Frag} {mg:Str->Option Value} {base:Heap}
theorem scChoices:Zt ["_law_begun_here","_law_many","_law_room_here","_law_row","_law_column","_law_found","_law_thing","_law_some"] ["_law_begun_here"] (Zf Y1):=⟨rfl,rfl,rfl,by decide +kernel,rfl,by decide +kernel,by decide +kernel⟩
inductive ZeM (H:Hp) (a:Addr) (n:Nat) (B:List (List V)) (d:Addr) (i:Nat) (σ:St) (H2:Hp):Prop where
 | mk (v3 v4:Option V) (_:σ=[some (.ref a),some (.int (n:Int)),some (.ref d),v3,v4,none,none,none]) (_:Same H H2) (_:DOk (fun m=>H m=none) n B H2 d (Z3 n B i)):ZeM H a n B d i σ H2
inductive ZeL (H:Hp) (a:Addr) (n:Nat) (B:List (List V)) (d:Addr) (i:Nat) (j:Nat) (σ:St) (H3:Hp):Prop where
 | mk (v4:Option V) (_:σ=[some (.ref a),some (.int (n:Int)),some (.ref d),some (.int (i:Int)),v4,none,none,none]) (_:Same H H3) (_:DOk (fun m=>H m=none) n B H3 d (Z3 n B i++Yw B i j)):ZeL H a n B d i j σ H3
inductive ZeK (H:Hp) (n:Nat) (B:List (List V)) (d:Addr) (H2:Hp) (ls:Addr) (qs:List Addr) (l:Addr) (i:Nat) (ys:List V) (σ:St) (H3:Hp):Prop where
 | mk (v:Option V) (cs:List Addr) (_:σ=[v,some (.ref d)]) (_:ys=cs.map V.ref) (_:Same H2 H3) (_:H3 ls=some (.lst (qs.map V.ref))) (_:H3 l=some (.lst ys)) (_:Paired (ChX (fun m=>H m=none/\m≠l) H3) cs (((Z3 n B n).map (cellOf n B)).take i)):ZeK H n B d H2 ls qs l i ys σ H3
inductive ZeJ (H:Hp) (a:Addr) (n:Nat) (B:List (List V)) (d:Addr) (l:Addr) (i:Nat) (σ:St) (H4:Hp):Prop where
 | mk (v3 v4 v6 v7:Option V) (cs:List Addr) (_:σ=[some (.ref a),some (.int (n:Int)),some (.ref d),v3,v4,some (.ref l),v6,v7]) (_:Same H H4) (_:DOk (fun m=>H m=none/\m≠l) n B H4 d (Z3 n B n)) (_:H4 l=some (.lst (cs.map V.ref))) (_:Paired (ChX (fun m=>H m=none/\m≠l) H4) cs (YC n B n++ZX "row" n B (ZC n B) i)):ZeJ H a n B d l i σ H4
inductive ZeI (H:Hp) (a:Addr) (n:Nat) (B:List (List V)) (d:Addr) (l:Addr) (i:Nat) (j:Nat) (σ:St) (H5:Hp):Prop where
 | mk (v4 v6 v7:Option V) (cs:List Addr) (_:σ=[some (.ref a),some (.int (n:Int)),some (.ref d),some (.int (i:Int)),v4,some (.ref l),v6,v7]) (_:Same H H5) (_:DOk (fun m=>H m=none/\m≠l) n B H5 d (Z3 n B n)) (_:H5 l=some (.lst (cs.map V.ref))) (_:Paired (ChX (fun m=>H m=none/\m≠l) H5) cs ((YC n B n++ZX "row" n B (ZC n B) i)++YS "row" n B (ZC n B) i j)):ZeI H a n B d l i j σ H5
inductive ZeH (H:Hp) (a:Addr) (n:Nat) (B:List (List V)) (d:Addr) (l:Addr) (i:Nat) (σ:St) (H5:Hp):Prop where
 | mk (v3 v4 v6 v7:Option V) (cs:List Addr) (_:σ=[some (.ref a),some (.int (n:Int)),some (.ref d),v3,v4,some (.ref l),v6,v7]) (_:Same H H5) (_:DOk (fun m=>H m=none/\m≠l) n B H5 d (Z3 n B n)) (_:H5 l=some (.lst (cs.map V.ref))) (_:Paired (ChX (fun m=>H m=none/\m≠l) H5) cs ((YC n B n++ZX "row" n B (ZC n B) n)++ZX "column" n (ZC n B) B i)):ZeH H a n B d l i σ H5
inductive ZeG (H:Hp) (a:Addr) (n:Nat) (B:List (List V)) (d:Addr) (l:Addr) (i:Nat) (j:Nat) (σ:St) (H6:Hp):Prop where
 | mk (v3 v6 v7:Option V) (cs:List Addr) (_:σ=[some (.ref a),some (.int (n:Int)),some (.ref d),v3,some (.int (i:Int)),some (.ref l),v6,v7]) (_:Same H H6) (_:DOk (fun m=>H m=none/\m≠l) n B H6 d (Z3 n B n)) (_:H6 l=some (.lst (cs.map V.ref))) (_:Paired (ChX (fun m=>H m=none/\m≠l) H6) cs (((YC n B n++ZX "row" n B (ZC n B) n)++ZX "column" n (ZC n B) B i)++YS "column" n (ZC n B) B i j)):ZeG H a n B d l i j σ H6
set_option maxHeartbeats 1600000 in
theorem Zfe {f fR:Addr} {fd dR:FuncData} (F:Fun K "_law_choices" "_law_choices" Y1 f fd) (T:Blt mg) (DR:Dfn K mg "_law_room" JR ["_law_begun_here","_law_row","_law_column"] fR dR):FnOk P w K mg base CX0 2 f fd ["_law_begun_here"] (ZcN K):=by
 have GR:FnOk P w K mg base CX0 1 fR dR ["_law_begun_here","_law_row","_law_column"] (JZ K):=ZaP DR.F T
 refine F.ok scChoices (fun vs H Q E h=>?_) (fun cdv A outer s H vs Q E hr h=>?_)
 ·obtain ⟨_,_,_,rfl,_⟩:=h
  rfl
 ·obtain ⟨a,n,B,rfl,GT,S,hn,q⟩:=h
  have hu:=ZkT hr
  have G:Grid K H a B:=GT.grid
  refine' ⟨_,Ze ?s0 (Ze ?s1 (Ze (Yf PassesOwn.never rfl ?r1 (ZG (i:=3) scChoices.nd rfl (Or.inr rfl)) (Zg (Yf PassesOwn.never rfl ?r2 (ZG (i:=4) scChoices.nd rfl (Or.inr rfl)) (Zg (ZZ ?t1 (Zg ?b1) ZE)))))
   (Ze ?s3 (Ze (Yf PassesOwn.never rfl ?r3 (ZG (i:=3) scChoices.nd rfl (Or.inr rfl)) (Zg (Yf PassesOwn.never rfl ?r4 (ZG (i:=6) scChoices.nd rfl (Or.inr rfl)) (Zg (ZZ ?t2 (Ze ?b2 (Zg ?b3)) ZE)))))
   (Ze (Yf PassesOwn.never rfl ?r5 (ZG (i:=4) scChoices.nd rfl (Or.inr rfl)) (Zg (Yf PassesOwn.never rfl ?r6 (ZG (i:=6) scChoices.nd rfl (Or.inr rfl)) (Zg (ZZ ?t3 (Ze ?b4 (Zg ?b5)) ZE)))))
   (Zg (Zv (pv 5)))))))),?rd⟩
  case s0=>exact Zq (i:=1) scChoices.nd rfl (Or.inl rfl) (Zw (Zu K) rfl T.len PySem.boot_len (Za (pv 0) Zc))
  case s1=>exact Zq (i:=2) scChoices.nd rfl (Or.inr rfl) ZhF
  case r1=>exact ZB rfl T.range (Za (pv 1) Zc)
  case r2=>exact ZB rfl T.range (Za (pv 1) Zc)
  case r3=>exact ZB rfl T.range (Za (pv 1) Zc)
  case r4=>exact ZB rfl T.range (Za (pv 1) Zc)
  case r5=>exact ZB rfl T.range (Za (pv 1) Zc)
  case r6=>exact ZB rfl T.range (Za (pv 1) Zc)
  case t1=>exact Jm (Zaf (Zz ZI (Zz ZI (pv 0) (pv 3) (fun _ _=>rfl)) (pv 4) (fun _ _=>rfl)))
  case b1=>exact ZiN hu (pv 2) (ZH (Za (pv 3) (Za (pv 4) Zc))) (Zk GR hr rfl DR.m DR.F.kp DR.b .nil ZA (Za (pv 0) (Za (pv 3) (Za (pv 4) Zc)))) rfl
  case s3=>exact ZcP (i:=5) ["_law_cell","_law_room_here"] [none,some 2] scChoices.nd rfl (Or.inl rfl) rfl rfl (ZaN (Zw (ZcF rfl) rfl T.sorted PyProof.Rows.boot_sorted (Za (pv 2) Zc))) (fun _ _ _ _ _=>Jo 0) (fun _ _ _ _ _=>YH) (fun _ _ _ _ _=>ZH (Za (Zl (Jf K) (ZH (Za Z0 Zc)) (pv 0)) (Za (Zdw hu (pv 1) (pv 0) (fun _ _=>rfl)) Zc)))
  case t2=>exact Zx (Yt K) (pv 6) (Zz ZI (pv 0) (pv 3) (fun _ _=>rfl)) rfl
  case b2=>exact ZcP (i:=7) ["_law_c","_law_row","_law_room_here","_law_thing"] [none,some 3,some 2,some 6] scChoices.nd rfl (Or.inl rfl) rfl rfl (ZB rfl T.range (Za (pv 1) Zc)) (fun _ _ _ _ _=>Jo 0) (fun _ _ _ _ _=>YG (PW.pt (Zac (Jm (ZhG hu (ZH (Za (pv 1) (Za (pv 0) Zc))) (pv 2))) (Ju (Zx (ZdA K) (pv 3) (Zdw hu (pv 2) (ZH (Za (pv 1) (Za (pv 0) Zc))) (fun _ _=>rfl)) rfl))))) (fun _ _ _ _ _=>pv 0)
  case b3=>exact Ys (JC PySem.F.plainAttrs_list PySem.F.slot_list_append PySem.F.type_list_append Z5 (pv 5) (Za (ZH (Za (ZH (Za Z0 (Za (pv 3) (Za (pv 6) Zc)))) (Za (pv 7) Zc))) Zc))
  case t3=>exact Zx (Yt K) (pv 6) (Y7 ["_law_one","_law_column"] [none,some 4] rfl rfl (Zaq K (pv 0)) (fun _ _ _ _ _=>Jo 0) (fun _ _ _ _ _=>YH) (fun _ _ _ _ _=>Zz (ZT K) (pv 0) (pv 1) (fun _ _=>rfl))) rfl
  case b4=>exact ZcP (i:=7) ["_law_r","_law_column","_law_room_here","_law_thing"] [none,some 4,some 2,some 6] scChoices.nd rfl (Or.inl rfl) rfl rfl (ZB rfl T.range (Za (pv 1) Zc)) (fun _ _ _ _ _=>Jo 0) (fun _ _ _ _ _=>YG (PW.pt (Zac (Jm (ZhG hu (ZH (Za (pv 0) (Za (pv 1) Zc))) (pv 2))) (Ju (Zx (ZdA K) (pv 3) (Zdw hu (pv 2) (ZH (Za (pv 0) (Za (pv 1) Zc))) (fun _ _=>rfl)) rfl))))) (fun _ _ _ _ _=>pv 0)
  case b5=>exact Ys (JC PySem.F.plainAttrs_list PySem.F.slot_list_append PySem.F.type_list_append Z5 (pv 5) (Za (ZH (Za (ZH (Za Z0 (Za (pv 4) (Za (pv 6) Zc)))) (Za (pv 7) Zc))) Zc))
  case rd =>
   obtain ⟨ps,hx,hR⟩:=id G
   have hxl:(ps.map V.ref).length=n:=by rw [List.length_map,hR.length,S.len]
   have hnn:n*n<=36:=Nat.mul_le_mul hn hn
   refine ⟨_,rfl,a,_,rfl,.inr hx,?_⟩
   rw [hxl]
   intro d hd
   have smd:Same H (upd H d (.dT [])):=Same.new hd
   refine ⟨_,rfl,(n:Int),rfl,by exact Om.c2,by exact Om.c1 ‹_› rfl,?_⟩
   rw [Int.toNat_natCast]
   refine ZU (lo:=0) (n:=n) (ZeM H a n B d)
    ⟨none,none,rfl,smd,[],Zd,.nil⟩ ?_ ?_
   ·rintro i σ H2 hi ⟨v3,v4,rfl,sm2,D2⟩
    rw [Int.zero_add]
    refine ⟨_,rfl,(n:Int),rfl,by exact Om.c2,by exact Om.c1 ‹_› rfl,?_⟩
    rw [Int.toNat_natCast]
    refine ZU (lo:=0) (n:=n) (ZeL H a n B d i)
     ⟨v4,rfl,sm2,by rw [show Yw B i 0=[] from rfl,List.append_nil]; exact D2⟩ ?_ ?_
    ·rintro j σ H3 hj ⟨w4,rfl,sm3,D3⟩
     rw [Int.zero_add]
     obtain ⟨pr,hpr,hrow⟩:=Paired.getR hR (S.rowAt hi).1
     have hpr':(ps.map V.ref)[i]? = some (.ref pr):=by rw [List.getElem?_map,hpr]; rfl
     refine ⟨_,rfl,_,rfl,a,_,_,_,rfl,rfl,sm3.seqT hx,ZF hpr',_,rfl,pr,_,_,_,rfl,rfl,sm3.seqT hrow,ZF (S.entAt hi hj).1,_,rfl,?_⟩
     refine YD (fun hc=>?_) (fun hc=>?_)
     ·have hc':=of_decide_eq_true hc
      refine ⟨_,rfl,_,rfl,_,rfl,a,n,B,i,j,rfl,G.same sm3,S,hn,hi,hj,fun m H4 hm sm4 hm4=>?_⟩
      rw [ZbK] at hm4
      refine ⟨_,rfl,_,rfl,_,rfl,(show 2<=sizeLine from Zs (by decide)),fun k hk=>?_⟩
      have sm5:Same H4 (upd H4 k (.tup [.int (i:Int),.int (j:Int)])):=Same.new hk
      obtain ⟨ms,hd3,hP3⟩:=D3
      have hl3:(Z3 n B i++Yw B i j).length=ms.length:=hP3.length.symm
      have hni:(i,j)∉Z3 n B i++Yw B i j:=fun z=>by
       rcases List.mem_append.mp z with z | z
       ·have:=(mem_empTo.mp z).1; exact (Om.k83 this).elim
       ·have:=(mem_empRow.mp z).2.1; exact (Om.k83 this).elim
      have hd5:=sm5 _ _ (sm4 _ _ hd3)
      have hlen:(Yq (Z3 n B i++Yw B i j) ms).length<sizeLine:=by
       rw [ZfR hl3,List.length_append]
       have h2:=ZfZ n B i
       have h3:(Yw B i j).length<=j:=by unfold Yw; rw [List.length_map]; exact ZW _ _
       have h4:i*n<=36:=Nat.mul_le_mul (by exact Om.b2 ‹_› ‹_› rfl:i<=6) hn
       exact ZD (by exact Om.k82 hn hxl hj h2 h3 h4)
      refine ⟨d,_,rfl,DPut.t (k:=Jh (i,j)) hd5 Zd hlen,?_⟩
      rw [Zi7 hl3 hni,<- Zei (i,j) m hl3]
      have smA:=(sm3.trans sm4).trans sm5
      refine ⟨_,rfl,smA.upd_new hd,ms++[m],?_⟩
      rw [Zbx,if_pos hc',<- List.append_assoc]
      refine ⟨Zd,Paired.snoc (Paired.mapP hP3 fun b rc z=>⟨z.1,?_⟩) ⟨sm3.free hm,?_⟩⟩
      ·rw [Zh (Yi z.2 hd3 (by intro y; cases y))]
       exact sm5 _ _ (sm4 _ _ z.2)
      ·rw [Zh (Yi (sm5 _ _ hm4) hd5 (by intro y; cases y))]
       exact sm5 _ _ hm4
     ·have hc':¬ at2 B i j = .non:=fun z=>hc (decide_eq_true z)
      refine ⟨_,rfl,sm3,?_⟩
      rw [Zbx,if_neg hc',List.append_nil]
      exact D3
    ·rintro σ H3 ⟨w4,rfl,sm3,D3⟩
     refine ⟨_,_,rfl,sm3,?_⟩
     unfold Z3
     rw [Zas]
     exact D3
   ·rintro σ H2 ⟨v3,v4,rfl,sm2,D2⟩
    have hel:=ZfZ n B n
    obtain ⟨ms,hd2,hP2⟩:=id D2
    refine ⟨_,rfl,d,_,(Z3 n B n).map Zay,2,rfl,hd2,?_,?_,by decide,by rw [List.length_map]; exact Om.k81 hnn hel,Zji n B n,fun ls qs hls hqs=>?_⟩
    ·rw [Zcd hP2.length.symm,List.map_map]
     rfl
    ·intro r hr
     obtain ⟨rc,_,rfl⟩:=List.mem_map.mp hr
     rfl
    have sms:Same H2 (upd H2 ls (.lst (qs.map V.ref))):=Same.new hls
    have hql:qs.length=(Z3 n B n).length:=by rw [hqs.length,List.length_map]
    refine ⟨ls,rfl,⟨_,SqL.of Zd⟩,fun l hl=>?_⟩
    have hl0:H l=none:=(sm2.trans sms).free hl
    have hls':ls≠l:=fun z=>by rw [<- z,Zd] at hl; cases hl
    have D2l:DOk (fun m=>H m=none/\m≠l) n B H2 d (Z3 n B n):=D2.imp fun m u z hu'=>⟨z,fun e=>by rw [e,sms.free hl] at hu'; cases hu'⟩
    refine JP (Jz (K:=K) (a:=ls) (xs:=qs.map V.ref)) (ZeK H n B d H2 ls qs l)
     ⟨none,[],rfl,rfl,sms.upd_new (sms.free hl),by rw [Zh hls']; exact Zd,Zd,.nil⟩ (fun i ys σ H3 zz0=> by obtain ⟨_,_,_,_,_,h2,h3,_⟩ := zz0; exact ⟨SqL.of h2,h3⟩) ?_ ?_
    ·rintro i x ys σ H3 hxi ⟨v,cs,rfl,rfl,sm3,hls3,hl3,hP3⟩
     rw [List.getElem?_map] at hxi
     cases eq:qs[i]? with
     | none=>rw [eq] at hxi; cases hxi
     | some q0 =>
      rw [eq] at hxi
      cases hxi
      obtain ⟨rc',hrc',hq0⟩:=Paired.getL hqs eq
      rw [List.getElem?_map] at hrc'
      cases erc:(Z3 n B n)[i]? with
      | none=>rw [erc] at hrc'; cases hrc'
      | some rc =>
       rw [erc] at hrc'
       cases hrc'
       obtain ⟨r,c⟩:=rc
       have hq3:H3 q0=some (.tup [.int (r:Int),.int (c:Int)]):=sm3 _ _ hq0
       have hmem:(r,c)∈Z3 n B n:=List.mem_of_getElem? erc
       refine ⟨(show 1<=sizeLine from Zs (by decide)),fun t1 ht1=>?_⟩
       have sm4:Same H3 (upd H3 t1 (.tup [.str "cell"])):=Same.new ht1
       refine ⟨_,rfl,t1,q0,_,_,rfl,rfl,Zd,sm4 _ _ hq3,(show 1+2<=sizeLine from Zs (by decide)),fun t2 H5 sm5 ht2=>?_⟩
       have hq5:=sm5 _ _ (sm4 _ _ hq3)
       obtain ⟨m,hm0,hm5,hg⟩:=(D2l.same (sm3.trans (sm4.trans sm5))).get hmem hq5
       refine ⟨_,rfl,_,rfl,d,_,rfl,hg,?_⟩
       refine ⟨(show 2<=sizeLine from Zs (by decide)),fun p hp=>?_⟩
       have sm6:Same H5 (upd H5 p (.tup [.ref t2,.ref m])):=Same.new hp
       have smA:Same H3 (upd H5 p (.tup [.ref t2,.ref m])):=(sm4.trans sm5).trans sm6
       have x:ChX (fun m=>H m=none/\m≠l) (upd H5 p (.tup [.ref t2,.ref m])) p (cellOf n B (r,c)):=⟨t2,m,hm0,Zd,sm6 _ _ ht2,sm6 _ _ hm5⟩
       obtain ⟨e1,e2⟩:=ZaZ (fun m z=>z.2) (smA _ _ hl3) (Paired.mapP hP3 fun _ _ z=>z.same smA) x
       refine ⟨smA _ _ hl3,?_,_,cs++[p],rfl,by rw [List.map_append]; rfl,?_,?_,Zd,?_⟩
       ·have h1:=hP3.length
        rw [List.length_take,List.length_map] at h1
        rw [List.length_map]
        exact ZD (by exact Om.k80 hnn hel hql h1)
       ·exact (sm3.trans smA).upd_new (sms.free hl)
       ·rw [Zh hls']
        exact smA _ _ hls3
       ·rw [List.take_add_one,List.getElem?_map,erc]
        exact e2
    ·rintro ys σ H3 ⟨v,cs,rfl,rfl,sm3,hls3,hl3,hP3⟩
     rw [List.length_map,hql,List.take_of_length_le (by rw [List.length_map]; exact Nat.le_refl _),<- ZgX] at hP3
     have hN:∀ m,(H m=none/\m≠l)->m≠l:=fun m z=>z.2
     have D3:DOk (fun m=>H m=none/\m≠l) n B H3 d (Z3 n B n):=D2l.same sm3
     clear D2 D2l hP2 hd2 hqs hls3
     refine ⟨_,rfl,(n:Int),rfl,by exact Om.c2,by exact Om.c1 ‹_› rfl,?_⟩
     rw [Int.toNat_natCast]
     refine ZU (lo:=0) (n:=n) (ZeJ H a n B d l)
      ⟨_,_,none,none,cs,rfl,sm2.trans sm3,D3,hl3,by rw [show ZX "row" n B (ZC n B) 0=[] from rfl,List.append_nil]; exact hP3⟩ ?_ ?_
     ·rintro i σ H4 hi ⟨v3,v4,v6,v7,cs4,rfl,sm4,D4,hl4,hP4⟩
      rw [Int.zero_add]
      refine ⟨_,rfl,(n:Int),rfl,by exact Om.c2,by exact Om.c1 ‹_› rfl,?_⟩
      rw [Int.toNat_natCast]
      refine ZU (lo:=0) (n:=n) (ZeI H a n B d l i)
       ⟨v4,v6,v7,cs4,rfl,sm4,D4,hl4,by rw [show YS "row" n B (ZC n B) i 0=[] from rfl,List.append_nil]; exact hP4⟩ ?_ ?_
      ·rintro j σ H5 hj ⟨w4,w6,w7,cs5,rfl,sm5,D5,hl5,hP5⟩
       rw [Int.zero_add]
       obtain ⟨pr,hpr,hrow⟩:=Paired.getR hR (S.rowAt hi).1
       have hpr':(ps.map V.ref)[i]? = some (.ref pr):=by rw [List.getElem?_map,hpr]; rfl
       refine ⟨_,rfl,_,rfl,_,rfl,a,_,_,_,rfl,rfl,sm5.seqT hx,ZF hpr',pr,_,rfl,.inr (sm5.seqT hrow),rfl,Jq S hi,_,rfl,?_⟩
       refine YD (fun hc=>?_) (fun hc=>?_)
       ·have hc':(!inV (.int (j:Int)) (Zj B i))=true:=hc
        refine ⟨_,rfl,(n:Int),rfl,by exact Om.c2,by exact Om.c1 ‹_› rfl,fun m hm=>?_⟩
        rw [Int.toNat_natCast]
        refine ZO (fun c:Nat=>if (decide (at2 B i c = .non)&&decide (j∈Z1 n B i c))=true then some (.int (c:Int)) else none) (fun σ=>∃ v,σ=[v,some (.int (i:Int)),some (.ref d),some (.int (j:Int))]) Yj (by rw [ZR]; exact Zs (by exact Om.b1 ‹_› rfl)) hm (fun H' sm=>trivial) ⟨none,rfl⟩ ?_ ?_
        ·rintro c x σ H' R hcx ⟨v,rfl⟩ sm kk
         obtain ⟨hcn,rfl⟩:=YT hcx
         refine ⟨_,rfl,_,rfl,(show 2<=sizeLine from Zs (by decide)),fun t1 ht1=>?_⟩
         have smt:Same H' (upd H' t1 (.tup [.int (i:Int),.int (c:Int)])):=Same.new ht1
         by_cases he:at2 B i c = .non
         ·obtain ⟨m1,hm1,hm2,hg⟩:=(D5.same (sm.trans smt)).get (mem_empTo.mpr ⟨hi,hcn,he⟩) (b:=t1) Zd
          refine ⟨_,rfl,d,_,rfl,hg,_,rfl,Y5 ?_⟩
          refine ⟨_,rfl,_,rfl,_,rfl,_,rfl,(show 2<=sizeLine from Zs (by decide)),fun t2 ht2=>?_⟩
          have smu:Same (upd H' t1 (.tup [.int (i:Int),.int (c:Int)])) (upd (upd H' t1 (.tup [.int (i:Int),.int (c:Int)])) t2 (.tup [.int (i:Int),.int (c:Int)])):=Same.new ht2
          obtain ⟨m3,hm3,hm4,hg2⟩:=(D5.same (sm.trans (smt.trans smu))).get (mem_empTo.mpr ⟨hi,hcn,he⟩) (b:=t2) Zd
          refine ⟨d,_,rfl,hg2,m3,_,rfl,.inl (SqL.of hm4),rfl,Zci _,_,rfl,?_⟩
          have kk':=kk [some (.int (c:Int)),some (.int (i:Int)),some (.ref d),some (.int (j:Int))] _ ⟨_,rfl⟩ (smt.trans smu)
          show if inV (.int (j:Int)) (ZP (Z1 n B i c))=true then _ else _
          rw [Zbg]
          rw [decide_eq_true he,Bool.true_and] at kk'
          cases hb:decide (j∈Z1 n B i c) with
          | true =>
           rw [hb,if_pos rfl] at kk'
           exact Y5 ⟨_,rfl,kk'⟩
          | false =>
           rw [hb,if_neg (by simp)] at kk'
           exact Yx kk'
         ·refine ⟨_,rfl,d,_,rfl,(D5.same (sm.trans smt)).no (fun z=>he (mem_empTo.mp z).2.2) Zd,_,rfl,Yx ?_⟩
          have kk':=kk [some (.int (c:Int)),some (.int (i:Int)),some (.ref d),some (.int (j:Int))] _ ⟨_,rfl⟩ smt
          rw [decide_eq_false he,Bool.false_and,if_neg (by simp)] at kk'
          exact Yx kk'
        ·intro H6 sm6 hm6
         rw [ZR,JF n fun c=>decide (at2 B i c = .non)&&decide (j∈Z1 n B i c),Zhs hj hc'] at hm6
         have hl6:=sm6 _ _ hl5
         refine ⟨_,rfl,.inl ⟨rfl,_,SqL.of hl6⟩,_,rfl,_,rfl,(show 3<=sizeLine from Zs (by decide)),fun k hk=>?_⟩
         have sm7:Same H6 (upd H6 k (.tup [.str "row",.int (i:Int),.int (j:Int)])):=Same.new hk
         refine ⟨_,rfl,(show 2<=sizeLine from Zs (by decide)),fun p hp=>?_⟩
         have sm8:Same (upd H6 k (.tup [.str "row",.int (i:Int),.int (j:Int)])) (upd (upd H6 k (.tup [.str "row",.int (i:Int),.int (j:Int)])) p (.tup [.ref k,.ref m])):=Same.new hp
         have smA:=sm6.trans (sm7.trans sm8)
         have hml:m≠l:=fun z=>by rw [z,hl5] at hm; cases hm
         have x:ChX (fun m=>H m=none/\m≠l) (upd (upd H6 k (.tup [.str "row",.int (i:Int),.int (j:Int)])) p (.tup [.ref k,.ref m])) p ⟨"row",i,j,plN n (Zj B i) (ZC n B) j⟩:=⟨k,m,⟨sm5.free hm,hml⟩,Zd,sm8 _ _ Zd,sm8 _ _ (sm7 _ _ hm6)⟩
         obtain ⟨e1,e2⟩:=ZaZ hN (smA _ _ hl5) (Paired.mapP hP5 fun _ _ z=>z.same smA) x
         refine ⟨l,_,_,rfl,rfl,smA _ _ hl5,?_,?_⟩
         ·have h1:=hP5.length
          rw [List.length_append,List.length_append] at h1
          have h2:=JQ n B n
          have h3:=YR "row" n B (ZC n B) i
          have h4:i*n<=36:=Nat.mul_le_mul (by exact Om.b2 ‹_› ‹_› rfl:i<=6) hn
          have h5:=Zbl "row" n B (ZC n B) i j
          rw [List.length_map]
          exact ZD (by exact Om.k79 hn hxl hnn hj h1 h2 h3 h4 h5)
         ·refine ⟨_,_,_,cs5++[p],rfl,(sm5.trans smA).upd_new hl0,(D5.same smA).put hN (smA _ _ hl5),e1,?_⟩
          rw [Ja,if_pos hc',<- List.append_assoc]
          exact e2
       ·have hc':¬ (!inV (.int (j:Int)) (Zj B i))=true:=hc
        refine ⟨_,_,_,cs5,rfl,sm5,D5,hl5,?_⟩
        rw [Ja,if_neg hc',List.append_nil]
        exact hP5
      ·rintro σ H5 ⟨w4,w6,w7,cs5,rfl,sm5,D5,hl5,hP5⟩
       refine ⟨_,_,_,_,cs5,rfl,sm5,D5,hl5,?_⟩
       rw [Zbs,<- List.append_assoc]
       exact hP5
     ·rintro σ H4 ⟨v3,v4,v6,v7,cs4,rfl,sm4,D4,hl4,hP4⟩
      refine ⟨_,rfl,(n:Int),rfl,by exact Om.c2,by exact Om.c1 ‹_› rfl,?_⟩
      rw [Int.toNat_natCast]
      refine ZU (lo:=0) (n:=n) (ZeH H a n B d l)
       ⟨_,_,_,_,cs4,rfl,sm4,D4,hl4,by rw [show ZX "column" n (ZC n B) B 0=[] from rfl,List.append_nil]; exact hP4⟩ ?_ ?_
      ·rintro i σ H5 hi ⟨u3,u4,u6,u7,cs5,rfl,sm5,D5,hl5,hP5⟩
       rw [Int.zero_add]
       refine ⟨_,rfl,(n:Int),rfl,by exact Om.c2,by exact Om.c1 ‹_› rfl,?_⟩
       rw [Int.toNat_natCast]
       refine ZU (lo:=0) (n:=n) (ZeG H a n B d l i)
        ⟨u3,u6,u7,cs5,rfl,sm5,D5,hl5,by rw [show YS "column" n (ZC n B) B i 0=[] from rfl,List.append_nil]; exact hP5⟩ ?_ ?_
       ·rintro j σ H6 hj ⟨w3,w6,w7,cs6,rfl,sm6,D6,hl6,hP6⟩
        rw [Int.zero_add]
        refine ⟨_,rfl,_,rfl,a,rfl,⟨_,sm6.seqT hx⟩,fun lk hlk=>ZO (fun q=>some (at2 B q i)) (fun σ=>∃ v,σ=[v,some (.int (i:Int))]) Zan (by rw [hxl]; exact Zs (by exact Om.b1 ‹_› rfl)) hlk (fun H' sm=>(sm6.trans sm).seqT hx) ⟨none,rfl⟩ ?_ ?_⟩
        ·rintro q x σ H' R hq ⟨v,rfl⟩ sm kk
         obtain ⟨p,rfl,hqn,hp⟩:=JE hR S hq
         exact ⟨_,rfl,_,rfl,p,Zj B q,(i:Int),at2 B q i,rfl,rfl,(sm6.trans sm).seqT hp,ZF (S.entAt hqn hi).1,kk _ _ ⟨_,rfl⟩ (Same.refl _)⟩
        ·intro H7 sm7 hlk7
         rw [Z2,hxl,<- ZdU hi] at hlk7
         refine ⟨lk,_,rfl,.inl (SqL.of hlk7),rfl,Jq (Zao S) hi,_,rfl,?_⟩
         have D7:=D6.same sm7
         have hl7:=sm7 _ _ hl6
         have hP7:=Paired.mapP hP6 fun _ _ z=>z.same sm7
         have s07:=sm6.trans sm7
         refine YD (fun hc=>?_) (fun hc=>?_)
         ·have hc':(!inV (.int (j:Int)) (Zj (ZC n B) i))=true:=hc
          refine ⟨_,rfl,(n:Int),rfl,by exact Om.c2,by exact Om.c1 ‹_› rfl,fun m hm=>?_⟩
          rw [Int.toNat_natCast]
          refine ZO (fun r:Nat=>if (decide (at2 B r i = .non)&&decide (j∈Z1 n B r i))=true then some (.int (r:Int)) else none) (fun σ=>∃ v,σ=[v,some (.int (i:Int)),some (.ref d),some (.int (j:Int))]) Yj (by rw [ZR]; exact Zs (by exact Om.b1 ‹_› rfl)) hm (fun H' sm=>trivial) ⟨none,rfl⟩ ?_ ?_
          ·rintro r x σ H' R hrx ⟨v,rfl⟩ sm kk
           obtain ⟨hrn,rfl⟩:=YT hrx
           refine ⟨_,rfl,_,rfl,(show 2<=sizeLine from Zs (by decide)),fun t1 ht1=>?_⟩
           have smt:Same H' (upd H' t1 (.tup [.int (r:Int),.int (i:Int)])):=Same.new ht1
           by_cases he:at2 B r i = .non
           ·obtain ⟨m1,hm1,hm2,hg⟩:=(D7.same (sm.trans smt)).get (mem_empTo.mpr ⟨hrn,hi,he⟩) (b:=t1) Zd
            refine ⟨_,rfl,d,_,rfl,hg,_,rfl,Y5 ?_⟩
            refine ⟨_,rfl,_,rfl,_,rfl,_,rfl,(show 2<=sizeLine from Zs (by decide)),fun t2 ht2=>?_⟩
            have smu:Same (upd H' t1 (.tup [.int (r:Int),.int (i:Int)])) (upd (upd H' t1 (.tup [.int (r:Int),.int (i:Int)])) t2 (.tup [.int (r:Int),.int (i:Int)])):=Same.new ht2
            obtain ⟨m3,hm3,hm4,hg2⟩:=(D7.same (sm.trans (smt.trans smu))).get (mem_empTo.mpr ⟨hrn,hi,he⟩) (b:=t2) Zd
            refine ⟨d,_,rfl,hg2,m3,_,rfl,.inl (SqL.of hm4),rfl,Zci _,_,rfl,?_⟩
            have kk':=kk [some (.int (r:Int)),some (.int (i:Int)),some (.ref d),some (.int (j:Int))] _ ⟨_,rfl⟩ (smt.trans smu)
            show if inV (.int (j:Int)) (ZP (Z1 n B r i))=true then _ else _
            rw [Zbg]
            rw [decide_eq_true he,Bool.true_and] at kk'
            cases hb:decide (j∈Z1 n B r i) with
            | true =>
             rw [hb,if_pos rfl] at kk'
             exact Y5 ⟨_,rfl,kk'⟩
            | false =>
             rw [hb,if_neg (by simp)] at kk'
             exact Yx kk'
           ·refine ⟨_,rfl,d,_,rfl,(D7.same (sm.trans smt)).no (fun z=>he (mem_empTo.mp z).2.2) Zd,_,rfl,Yx ?_⟩
            have kk':=kk [some (.int (r:Int)),some (.int (i:Int)),some (.ref d),some (.int (j:Int))] _ ⟨_,rfl⟩ smt
            rw [decide_eq_false he,Bool.false_and,if_neg (by simp)] at kk'
            exact Yx kk'
          ·intro H8 sm8 hm8
           rw [ZR,JF n fun r=>decide (at2 B r i = .non)&&decide (j∈Z1 n B r i),Zio hi hj hc'] at hm8
           have hl8:=sm8 _ _ hl7
           refine ⟨_,rfl,.inl ⟨rfl,_,SqL.of hl8⟩,_,rfl,_,rfl,(show 3<=sizeLine from Zs (by decide)),fun k hk=>?_⟩
           have sm9:Same H8 (upd H8 k (.tup [.str "column",.int (i:Int),.int (j:Int)])):=Same.new hk
           refine ⟨_,rfl,(show 2<=sizeLine from Zs (by decide)),fun p hp=>?_⟩
           have sm10:Same (upd H8 k (.tup [.str "column",.int (i:Int),.int (j:Int)])) (upd (upd H8 k (.tup [.str "column",.int (i:Int),.int (j:Int)])) p (.tup [.ref k,.ref m])):=Same.new hp
           have smA:=sm8.trans (sm9.trans sm10)
           have hml:m≠l:=fun z=>by rw [z,hl7] at hm; cases hm
           have x:ChX (fun m=>H m=none/\m≠l) (upd (upd H8 k (.tup [.str "column",.int (i:Int),.int (j:Int)])) p (.tup [.ref k,.ref m])) p ⟨"column",i,j,plN n (Zj (ZC n B) i) B j⟩:=⟨k,m,⟨s07.free hm,hml⟩,Zd,sm10 _ _ Zd,sm10 _ _ (sm9 _ _ hm8)⟩
           obtain ⟨e1,e2⟩:=ZaZ hN (smA _ _ hl7) (Paired.mapP hP7 fun _ _ z=>z.same smA) x
           refine ⟨l,_,_,rfl,rfl,smA _ _ hl7,?_,?_⟩
           ·have h1:=hP7.length
            rw [List.length_append,List.length_append,List.length_append] at h1
            have h2:=JQ n B n
            have h3:=YR "column" n (ZC n B) B i
            have h3':=YR "row" n B (ZC n B) n
            have h4:i*n<=36:=Nat.mul_le_mul (by exact Om.b2 ‹_› ‹_› rfl:i<=6) hn
            have h5:=Zbl "column" n (ZC n B) B i j
            rw [List.length_map]
            exact ZD (by exact Om.k78 hn hxl hnn hj h1 h2 h3 h3' h4 h5)
           ·refine ⟨_,_,_,cs6++[p],rfl,(s07.trans smA).upd_new hl0,(D7.same smA).put hN (smA _ _ hl7),e1,?_⟩
            rw [Ja,if_pos hc',<- List.append_assoc]
            exact e2
         ·have hc':¬ (!inV (.int (j:Int)) (Zj (ZC n B) i))=true:=hc
          refine ⟨_,_,_,cs6,rfl,s07,D7,hl7,?_⟩
          rw [Ja,if_neg hc',List.append_nil]
          exact hP7
       ·rintro σ H6 ⟨w3,w6,w7,cs6,rfl,sm6,D6,hl6,hP6⟩
        refine ⟨_,_,_,_,cs6,rfl,sm6,D6,hl6,?_⟩
        rw [Zbs,<- List.append_assoc]
        exact hP6
      ·rintro σ H5 ⟨u3,u4,u6,u7,cs5,rfl,sm5,D5,hl5,hP5⟩
       exact ⟨_,rfl,q l H5 sm5 ⟨cs5,hl5,Paired.mapP hP5 fun _ _ z=>z.imp fun m y=>y.1⟩⟩
end
end My
namespace L2
open PySem PySem.Spec PyProof.Rows
section
variable {prog:Program} {w:World} {A:Around} {R:Result->Shared->Prop} {it:Addr} {fp wr:List Addr} {n:Nat} {P:Nat->Value->Prop} {St:Nat->Heap->Prop} {G:Shared->Prop} {lt:Nat->Nat->Bool} {bx:Addr}
theorem ZbI:(toString "min" ++ toString ".loop" : String) = "min.loop":=by decide
theorem ZiY (Wk:Walks prog w A.in1 it fp wr n P St) (hG:∀ (s:Shared) h' tk,G s->(∀ b o,b∉wr->b≠bx->s.heap.get? b=some o->h'.get? b=some o)->G { s with heap:=h',toks:=tk })
  (cmp:∀ i j u v (s:Shared) (Q:Value->Shared->Prop) (E:Value->Shared->Prop),G s->P i u->P j v->Q (.bool (lt i j)) s->wpAny (model prog w) A.in1 (richCompare .Lt u v) Q E s) (hb:bx∉fp) :
  ∀ (r i:Nat) (s:Shared) (u:Value) (c:Nat),n - (i+1)=r->i+1<=n->St (i+1) s.heap->G s->P (argBest lt i) u ->
  s.heap.get? bx=some { cls:=.type "list",dict:=none,data:=.seq #[u,u] c,slots:=#[] } ->
  (∀ v h' tk,P (argBest lt (n - 1)) v->(∀ b o,b∉wr->b≠bx->s.heap.get? b=some o->h'.get? b=some o)->R (.ok (.ret v)) { s with heap:=h',toks:=tk }) ->
  codeAny (model prog w) A (.builtin "min.loop" ⟨[.ref it,.none,.ref bx],[]⟩) R s:=by
 have hw:bx∉wr:=fun z=>hb (Wk.sub _ z)
 intro r
 induction r with
 | zero =>
  intro i s u c hr hi st g hp hx q
  have e:i+1=n:=by exact Om.k77 hr hi
  refine codeAny_builtin PySem.F.entry_min_loop ?_
  rw [Around.under_plainId PySem.F.plain_min_loop _]
  refine wpAny_bind (m:=seqItems? (.ref bx)) (wpAny_seqItems hx rfl ?_)
  refine wpAny_bind (m:=tryCatch (pyNext (.ref it)) _) (wpAny_tryCatch (Wk.done s _ _ (e ▸ st) fun h2 tk k2=>?_))
  have hx2:=k2 bx _ hw hx
  refine wpAny_bind (m:=updateSeq bx fun _=>#[]) (wpAny_updateSeq hx2 rfl (wpAny_bind (wpAny_letGo (wpAny_pure ?_))))
  exact q u _ tk (by rw [<- e]; exact hp) fun b o n1 n2 z=>(Heap.get?_update_other _ _ (Ne.symm n2)).trans (k2 b o n1 z)
 | succ r ih =>
  intro i s u c hr hi st g hp hx q
  have hlt:i+1<n:=by exact Om.k76 hr hi
  refine codeAny_builtin PySem.F.entry_min_loop ?_
  rw [Around.under_plainId PySem.F.plain_min_loop _]
  refine wpAny_bind (m:=seqItems? (.ref bx)) (wpAny_seqItems hx rfl ?_)
  refine wpAny_bind (m:=tryCatch (pyNext (.ref it)) _) (wpAny_tryCatch (Wk.item (i+1) s _ _ hlt st fun x h2 tk px st2 k2=>?_))
  have hx2:=k2 bx _ hw hx
  have g2:G { s with heap:=h2,toks:=tk }:=hG s _ _ g fun b o n1 _ z=>k2 b o n1 z
  refine wpAny_bind (m:=tryCatch (holding [x,x] (richCompare .Lt x u >>= _)) _) (wpAny_tryCatch (wpAny_holding (wpAny_bind (cmp (i+1) (argBest lt i) x u _ _ _ g2 px hp ?_))))
  refine wpAny_bind (wpAny_holding (wpAny_truthy_bool (wpAny_bind (wpAny_letGo (wpAny_pure ?_)))))
  cases hl:lt (i+1) (argBest lt i) with
  | true =>
   simp only [if_true]
   refine wpAny_bind (wpAny_updateSeq hx2 rfl (wpAny_bind (wpAny_letGo ?_)))
   rw [ZbI]
   have up:∀ b o,b≠bx->h2.get? b=some o->(h2.update bx (Obj.mapSeq fun _=>#[x,x])).get? b=some o:=fun b o n2 z=>(Heap.get?_update_other _ _ (Ne.symm n2)).trans z
   refine wpAny_pure ⟨plainId_quiet PySem.F.plain_min_loop _,ih (i+1) _ x _ (by exact Om.k75 hr hlt) hlt (Wk.frame _ _ _ st2 fun b hf o z=>up b o (fun e=>hb (e ▸ hf)) z) (hG _ _ _ g2 fun b o _ n2 z=>up b o n2 z) (by simp only [argBest,hl,if_true]; exact px) (Heap.get?_update_self _ hx2 rfl) fun v h3 tk3 pv k3=>?_⟩
   exact q v h3 tk3 pv fun b o n1 n2 z=>k3 b o n1 n2 (up b o n2 (k2 b o n1 z))
  | false =>
   simp only [Bool.false_eq_true,if_false]
   refine wpAny_bind (wpAny_letGo ?_)
   rw [ZbI]
   exact wpAny_pure ⟨plainId_quiet PySem.F.plain_min_loop _,ih (i+1) _ u c (by exact Om.k75 hr hlt) hlt st2 g2 (by simp only [argBest,hl,Bool.false_eq_true,if_false]; exact hp) hx2 fun v h3 tk3 pv k3=>q v h3 tk3 pv fun b o n1 n2 z=>k3 b o n1 n2 (k2 b o n1 z)⟩
theorem ZhU (Wk:Walks prog w A.in1 it fp wr n P St) (hG:∀ (s:Shared) h' tk,G s->(∀ b o,b∉wr->b≠bx->s.heap.get? b=some o->h'.get? b=some o)->G { s with heap:=h',toks:=tk })
  (cmp:∀ i j u v (s:Shared) (Q:Value->Shared->Prop) (E:Value->Shared->Prop),G s->P i u->P j v->Q (.bool (lt i j)) s->wpAny (model prog w) A.in1 (richCompare .Lt u v) Q E s) (hb:bx∉fp) (hn:0<n)
  {s:Shared} {c:Nat} (st:St 0 s.heap) (g:G s) (hx:s.heap.get? bx=some { cls:=.type "list",dict:=none,data:=.seq #[] c,slots:=#[] })
  (q:∀ v h' tk,P (argBest lt (n - 1)) v->(∀ b o,b∉wr->b≠bx->s.heap.get? b=some o->h'.get? b=some o)->R (.ok (.ret v)) { s with heap:=h',toks:=tk }) :
  codeAny (model prog w) A (.builtin "min.loop" ⟨[.ref it,.none,.ref bx],[]⟩) R s:=by
 have hw:bx∉wr:=fun z=>hb (Wk.sub _ z)
 refine codeAny_builtin PySem.F.entry_min_loop ?_
 rw [Around.under_plainId PySem.F.plain_min_loop _]
 refine wpAny_bind (m:=seqItems? (.ref bx)) (wpAny_seqItems hx rfl ?_)
 refine wpAny_bind (m:=tryCatch (pyNext (.ref it)) _) (wpAny_tryCatch (Wk.item 0 s _ _ hn st fun x h2 tk px st2 k2=>?_))
 have hx2:=k2 bx _ hw hx
 have g2:G { s with heap:=h2,toks:=tk }:=hG s _ _ g fun b o n1 _ z=>k2 b o n1 z
 have up:∀ b o,b≠bx->h2.get? b=some o->(h2.update bx (Obj.mapSeq fun _=>#[x,x])).get? b=some o:=fun b o n2 z=>(Heap.get?_update_other _ _ (Ne.symm n2)).trans z
 refine wpAny_bind (m:=updateSeq bx fun _=>#[x,x]) (wpAny_updateSeq hx2 rfl ?_)
 rw [ZbI]
 refine wpAny_pure ⟨plainId_quiet PySem.F.plain_min_loop _,ZiY Wk hG cmp hb _ 0 _ x _ rfl hn (Wk.frame _ _ _ st2 fun b hf o z=>up b o (fun e=>hb (e ▸ hf)) z) (hG _ _ _ g2 fun b o _ n2 z=>up b o n2 z) px (Heap.get?_update_self _ hx2 rfl) fun v h3 tk3 pv k3=>?_⟩
 exact q v h3 tk3 pv fun b o n1 n2 z=>k3 b o n1 n2 (up b o n2 (k2 b o n1 z))
end
section
variable {prog:Program} {w:World} {A:Around} {E:Value->Shared->Prop} {s:Shared}
theorem ZiZ {l:Addr} {vs:Array Value} {lt:Nat->Nat->Bool} {Q:Value->Shared->Prop} (hh:A.handled=none) (hl:s.heap.IsList l vs) (hn:0<vs.size)
  (cmp:∀ i j u v h' tk (Q:Value->Shared->Prop) (E:Value->Shared->Prop),(∀ b o,s.heap.get? b=some o->h'.get? b=some o)->vs[i]? = some u->vs[j]? = some v->Q (.bool (lt i j)) { s with heap:=h',toks:=tk }->wpAny (model prog w) A.in1 (richCompare .Lt u v) Q E { s with heap:=h',toks:=tk })
  (q:∀ v h' tk,vs[argBest lt (vs.size - 1)]? = some v->(∀ b o,s.heap.get? b=some o->h'.get? b=some o)->Q v { s with heap:=h',toks:=tk }) :
  wpAny (model prog w) A (call (.builtin "min") [.ref l]) Q E s:=by
 refine call_function_tree PySem.F.kind_min PySem.F.plain_min PySem.F.entry_min (PySem.F.args_min1 _) ?_
 refine wpAny_bind (wpAny_of_eq (a:=[none,none]) rfl (wpAny_bind (wpAny_pure (wpAny_bind (m:=pyIter (.ref l)) ?_))))
 refine wpAny_pyIter_list hl ?_
 obtain ⟨ol,el,_⟩:=id hl
 have ll:l<s.heap.objs.size:=Heap.lt_size el
 refine wpAny_bind (wpAny_newObj_type ?_)
 rw [ZbI]
 have k1:∀ b o,s.heap.get? b=some o->(s.heap.push { cls:=.type "list_iterator",data:=.fields #[.ref l,.int 0 0] }).get? b=some o:=fun b o e=>Heap.get?_push_of_some _ e
 have z1:(s.heap.push { cls:=.type "list_iterator",data:=.fields #[.ref l,.int 0 0] }).objs.size=s.heap.objs.size+1:=Heap.size_push ..
 have k2:∀ b o,s.heap.get? b=some o->((s.heap.push { cls:=.type "list_iterator",data:=.fields #[.ref l,.int 0 0] }).push { cls:=.type "list",data:=.seq #[] }).get? b=some o:=fun b o e=>Heap.get?_push_of_some _ (k1 b o e)
 refine wpAny_pure ⟨plainId_quiet PySem.F.plain_min_loop _,ZhU (bx:=(s.heap.push { cls:=.type "list_iterator",data:=.fields #[.ref l,.int 0 0] }).objs.size) (G:=fun t=>∃ h' tk,t={ s with heap:=h',toks:=tk }/\∀ b o,s.heap.get? b=some o->h'.get? b=some o) (Walks.list (A:=A.in1) hh s.heap.objs.size l (Nat.ne_of_lt ll) vs)
  (fun t h' tk ⟨h1,tk1,e1,g⟩ k=>⟨h',tk,by rw [e1],fun b o e=>k b o ?_ ?_ (by rw [e1]; exact g b o e)⟩) (fun i j u v t Q E zz0 hu hv z=> by obtain ⟨h1,tk1,e1,g⟩ := zz0; exact by subst e1; exact cmp i j u v h1 tk1 Q E g hu hv z) ?_ hn ⟨⟨_,Heap.get?_push_of_some _ (Heap.get?_push_size _ rfl),rfl,rfl⟩,hl.at fun o e=>k2 l o e⟩ ⟨_,_,rfl,k2⟩ (Heap.get?_push_size _ rfl) fun v h' tk hv k=>q v h' tk hv fun b o e=>k b o ?_ ?_ (k2 b o e)⟩
 ·exact fun z=>Nat.ne_of_lt (Heap.lt_size e) (by simpa using z)
 ·exact fun z=>by
   have:=Heap.lt_size e
   rw [z,z1] at this
   exact Nat.not_succ_lt_self this
 ·intro z
  rw [z1] at z
  simp only [List.mem_cons,List.not_mem_nil,or_false] at z
  rcases z with z | z
  ·exact Nat.succ_ne_self _ z
  ·rw [<- z] at ll
   exact Nat.not_succ_lt_self ll
 ·exact fun z=>Nat.ne_of_lt (Heap.lt_size e) (by simpa using z)
 ·exact fun z=>by
   have:=Heap.lt_size e
   rw [z,z1] at this
   exact Nat.not_succ_lt_self this
end
end L2
namespace L2
open PySem PySem.Spec PyProof.Rows PySem.W SeqAt
end L2
namespace L2
open PySem PySem.Spec PyProof.Rows PySem.W SeqAt
end L2
namespace HT
open PySem PyProof.Rows
section
variable {prog:Program} {w:World} {A:Around} {E:Value->Shared->Prop} {s:Shared}
end
end HT
namespace L2
open PySem PySem.Spec PyProof.Rows
theorem ZcI:∀ {ps:List Addr} {us:List Value},Vals (ps.map V.ref) us->us=ps.map Value.ref
 | [],_,.nil=>rfl
 | p::ps,_,.cons r t=>by
  cases r
  rw [ZcI t]
  rfl
noncomputable def ZiI (K:PySem.W.Frag) (d:Nat):R2:=fun x y H Q=>∃ (l:Addr) (ps:List Addr) (e:Addr->Bool),y = .ref l/\SqL K H l (ps.map V.ref)/\(∀ p∈ps,EqD K H d (.ref p) x (e p))/\Q (.bl (!ps.any e)) H
noncomputable def ZjA (e:Addr->Bool):Value->Bool
 | .ref a=>e a
 | _=>false
theorem Zgx {X:Cx} {d:Nat} (hu:X.A.units+1+d<cLine) (K:PySem.W.Frag) (hK:X.K=K:=by rfl):OpR X (compareOp .NotIn) (ZiI K d):=by
 subst hK
 intro pins s σ H x y v u Q I rx ry h
 obtain ⟨l,ps,e,rfl,hl,he,q⟩:=h
 cases ry
 obtain ⟨its,r,p,_⟩:=I.list hl
 have hits:=ZcI r
 subst hits
 refine SeqAt.notIn_listAt (ZjA e) p.isList (fun y hy=>?_) ?_
 ·obtain ⟨b,hb,rfl⟩:=List.mem_map.mp (List.mem_toArray.mp hy)
  exact ((he b hb).all I (A:=X.A.in1) rfl rx (by show X.A.units+1+d<cLine; exact hu)).1
 ·rw [show (ps.map Value.ref).toArray.any (ZjA e)=ps.any e by rw [List.any_toArray,List.any_map]; rfl]
  exact ⟨.bl _,H,I,rfl,q⟩
end L2
namespace L2
open PySem PySem.Spec PyProof.Rows PySem.W SeqAt
section
variable {X:Cx} {pins:List (Addr × Obj)} {σ:St} {H:Hp} {s:Shared}
end
end L2
namespace L2
open PySem PySem.Spec PyProof.Rows PySem.W SeqAt
theorem Zes (v:Nat->Int):∀ k,argBest (fun i j=>decide (v i<v j)) k<=k/\∀ j,j<=k->v (argBest (fun i j=>decide (v i<v j)) k)<=v j
 | 0=>⟨Nat.le_refl _,fun j hj=>by
   have:j=0:=by exact Om.k74 hj
   subst this
   exact Int.le_refl _⟩
 | k+1=>by
  obtain ⟨h1,h2⟩:=Zes v k
  have e:argBest (fun i j=>decide (v i<v j)) (k+1)=if decide (v (k+1)<v (argBest (fun i j=>decide (v i<v j)) k))=true then k+1 else argBest (fun i j=>decide (v i<v j)) k:=rfl
  rw [e]
  by_cases hb:v (k+1)<v (argBest (fun i j=>decide (v i<v j)) k)
  ·rw [if_pos (decide_eq_true hb)]
   refine ⟨Nat.le_refl _,fun j hj=>?_⟩
   by_cases q:j=k+1
   ·subst q
    exact Int.le_refl _
   ·have:=h2 j (by exact Om.q1 ‹_› ‹_›)
    omega
  ·rw [if_neg (by rw [decide_eq_true_eq]; exact hb)]
   refine ⟨by exact Om.k44 h1,fun j hj=>?_⟩
   by_cases q:j=k+1
   ·subst q
    exact Om.k73 hb
   ·exact h2 j (by exact Om.q1 ‹_› ‹_›)
noncomputable def ZkJ (K:PySem.W.Frag):List V->Hp->VK->Prop:=fun xs H Q=>∃ (l:Addr) (ns:List Int),xs=[.ref l]/\SqL K H l (ns.map V.int)/\0<ns.length/\∀ m:Int,m∈ns->(∀ x∈ns,m<=x)->Q (.int m) H
theorem ZgY {X:Cx} (K:PySem.W.Frag) (hc:X.calm=true) (hK:X.K=K:=by rfl):JV X (.builtin "min") (ZkJ K):=by
 subst hK
 intro pins s σ H xs us Q I r h
 obtain ⟨l,ns,rfl,hl,hn,q⟩:=h
 obtain ⟨u,rfl,ru⟩:=ZaG r
 cases ru
 obtain ⟨its,rv,pl,_⟩:=I.list hl
 have hlen:its.length=ns.length:=by rw [<- rv.length,List.length_map]
 have itv:∀ (i:Nat) (v:Value),its[i]? = some v->∃ t,v = .int (ns.getD i 0) t:=fun i v e=>by
  have hi:i<ns.length:=by rw [<- hlen]; exact (List.getElem?_eq_some_iff.mp e).1
  obtain ⟨w,g,rw'⟩:=rv.get (show (ns.map V.int)[i]? = some (V.int ns[i]) by rw [List.getElem?_map,List.getElem?_eq_getElem hi]; rfl)
  rw [e] at g
  cases g
  obtain ⟨t,rfl⟩:=rw'
  exact ⟨t,by rw [List.getD_eq_getElem?_getD,List.getElem?_eq_getElem hi]; rfl⟩
 have ext:∀ {h':Heap} {tk:Nat},(∀ b o,s.heap.get? b=some o->h'.get? b=some o)->Inv X pins σ H { s with heap:=h',toks:=tk }:=fun k=>I.kept k
 refine ZiZ (lt:=fun i j=>decide (ns.getD i 0<ns.getD j 0)) (I.ok.hd hc) pl.isList (by simp; exact Om.a1 ‹_› ‹_›) (fun i j u v h' tk Q E k hu1 hv1 z=>?_) (fun v h' tk hv k=>?_)
 ·obtain ⟨t1,rfl⟩:=itv i u (by simpa using hu1)
  obtain ⟨t2,rfl⟩:=itv j v (by simpa using hv1)
  exact PyProof.Rows.lt_int (a:=ns.getD i 0) (b:=ns.getD j 0) z
 ·obtain ⟨t,rfl⟩:=itv _ v (by rw [<- List.getElem?_toArray]; exact hv)
  obtain ⟨b1,b2⟩:=Zes (fun i=>ns.getD i 0) (its.toArray.size - 1)
  have hsz:its.toArray.size=ns.length:=by simp; exact hlen
  refine ⟨.int _,H,ext k,⟨t,rfl⟩,q _ ?_ fun x hx=>?_⟩
  ·have hb:argBest (fun i j=>decide (ns.getD i 0<ns.getD j 0)) (its.toArray.size - 1)<ns.length:=by exact Om.k72 hn hlen b1 hsz
   rw [List.getD_eq_getElem?_getD,List.getElem?_eq_getElem hb]
   exact List.getElem_mem _
  ·obtain ⟨j,hj,rfl⟩:=List.getElem_of_mem hx
   have:=b2 j (by exact Om.k71 hn hlen hsz hj)
   have e:ns.getD j 0=ns[j]:=by rw [List.getD_eq_getElem?_getD,List.getElem?_eq_getElem hj]; rfl
   rw [<- e]
   exact this
end L2
namespace My
open PySem L2
theorem Zkg:bootBuiltins "min" = some (Value.builtin "min"):=by decide +kernel
inductive Zde (K:PySem.W.Frag) (vs:List V) (H:Hp) (Q:VK):Prop where
 | mk (a:Addr) (n:Nat) (B:List (List V)) (r c:Nat) (_:vs=[.ref a]) (_:GridT H a B) (_:Sq n B) (_:n<=6) (_:r<n) (_:c<n) (_:at2 B r c = .non) (_:∀ p H' ch,Same H H'->IsFirst n B ch->ChX (fun m=>H m=none) H' p ch->Q (.ref p) H'):Zde K vs H Q
noncomputable def ZbU (K:PySem.W.Frag):Sp:=fun vs H Q _=>Zde K vs H Q
theorem ZbD {α:Type} (F:Nat->Option α) {N i:Nat} {v:α} (hi:i<N) (h1:F i=some v) (h2:∀ j,j<i->F j=none):((List.range N).filterMap F)[0]? = some v:=by
 have e:List.range N=List.range i++i::(List.range N).drop (i+1):=by
  have hlt:i<(List.range N).length:=by simpa using hi
  have e1:(List.range N).take i=List.range i:=by rw [List.take_range,Nat.min_eq_left (Nat.le_of_lt hi)]
  have e2:(List.range N).drop i=i::(List.range N).drop (i+1):=by
   rw [List.drop_eq_getElem_cons hlt]
   simp
  rw [<- e1,<- e2,List.take_append_drop]
 have e0:(List.range i).filterMap F=[]:=List.filterMap_eq_nil_iff.mpr fun j hj=>h2 j (List.mem_range.mp hj)
 rw [e,List.filterMap_append,e0,List.nil_append,List.filterMap_cons,h1]
 rfl
theorem Zbw:∀ (kf:Nat->Int) (N:Nat),0<N->∃ i,FirstLeast kf N i
 | kf,1,_=>⟨0,.one kf⟩
 | kf,N+2,_=>by
  obtain ⟨i,h⟩:=Zbw kf (N+1) (Nat.succ_pos _)
  by_cases hk:kf (N+1)<kf i
  ·exact ⟨_,h.less hk⟩
  ·exact ⟨_,h.more hk⟩
section
variable {P:Program} {w:World} {K:PySem.W.Frag} {mg:Str->Option Value} {base:Heap}
theorem scFirstL:Zt ["_law_begun_here","_law_choices_here","_law_fewest"] ["_law_begun_here"] (Zf J8):=⟨rfl,rfl,rfl,by decide +kernel,rfl,by decide +kernel,by decide +kernel⟩
theorem ZgB {f fR fCh:Addr} {fd dR dCh:FuncData} (F:Fun K "_law_first" "_law_first" J8 f fd) (T:Blt mg) (DR:Dfn K mg "_law_room" JR ["_law_begun_here","_law_row","_law_column"] fR dR) (DC:Dfn K mg "_law_choices" Y1 ["_law_begun_here"] fCh dCh):FnOk P w K mg base CX0 3 f fd ["_law_begun_here"] (ZbU K):=by
 have GC:FnOk P w K mg base CX0 2 fCh dCh ["_law_begun_here"] (ZcN K):=Zfe DC.F T DR
 refine F.ok scFirstL (fun vs H Q E h=>?_) (fun cdv A outer s H vs Q E hr h=>?_)
 ·obtain ⟨_,_,_,_,_,rfl,_⟩:=h
  rfl
 ·obtain ⟨a,n,B,r,c,rfl,G,S,hn,hrn,hcn,he,q⟩:=h
  refine' ⟨_,Ze ?s0 (Ze ?s1 (Zg (Zv ?s2))),?rd⟩
  case s0=>exact Zq (i:=1) scFirstL.nd rfl (Or.inl rfl) (Zk GC hr rfl DC.m DC.F.kp DC.b .nil ZA (Za (pv 0) Zc))
  case s1=>exact Zq (i:=2) scFirstL.nd rfl (Or.inr rfl) (Zw (ZgY K rfl) rfl T.min Zkg (Za (Y7 ["_law_choice","_law_some"] [none,none] rfl rfl (Jn K (pv 1)) (fun _ _ _ _ _=>Zdu (n:=2) K rfl (Y2 (Jo 0) (Y2 (Jo 1) ZbH))) (fun _ _ _ _ _=>YH) (fun _ _ _ _ _=>Zw (Zu K) rfl T.len PySem.boot_len (Za (pv 1) Zc))) Zc))
  case s2=>exact Zz YK (Y7 ["_law_one","_law_fewest"] [none,some 2] rfl rfl (Jn K (pv 1)) (fun _ _ _ _ _=>Jo 0) (fun _ _ _ _ _=>YG (Zx JD (Zw (Zu K) rfl T.len PySem.boot_len (Za (Zz (ZT K) (pv 0) Zi (fun _ _=>rfl)) Zc)) (pv 1) (ZN _))) (fun _ _ _ _ _=>pv 0)) Zi (fun _ _=>rfl)
  case rd =>
   refine ⟨_,rfl,a,n,B,rfl,G,S,hn,fun l H1 sm1 CL=>?_⟩
   obtain ⟨ps,hl,hP⟩:=CL
   have hlen:ps.length=(ZV n B).length:=hP.length
   have hcs:(ZV n B).length<=108:=by
    obtain ⟨l1,l2,l3⟩:=Zgb n B hn
    unfold ZV
    rw [List.length_append,List.length_append]
    exact Om.k70 l1 l2 l3
   have hpos:=Zda hrn hcn he
   have hpl:(ps.map V.ref).length=(ZV n B).length:=by rw [List.length_map]; exact hlen
   have item:∀ {i:Nat} {x:V},(ps.map V.ref)[i]? = some x->∃ p ch,x = .ref p/\ps[i]? = some p/\(ZV n B)[i]? = some ch/\ChX (fun m=>H m=none) H1 p ch:=fun {i x} e=>by
    rw [List.getElem?_map] at e
    cases ep:ps[i]? with
    | none=>rw [ep] at e; cases e
    | some p =>
     rw [ep] at e
     cases e
     obtain ⟨ch,h1,h2⟩:=Paired.getL hP ep
     exact ⟨p,ch,rfl,rfl,h1,h2⟩
   refine ⟨_,rfl,l,rfl,⟨_,SqL.of hl⟩,fun l2 hl2=>ZO (fun i=>some (.int (Y4 (ZV n B) i))) (fun σ=>∃ u v,σ=[u,v]) Jz (by rw [hpl]; exact Nat.le_of_lt (ZD (by exact Om.b1 ‹_› rfl))) hl2 (fun H' sm=>SqL.of (sm _ _ hl)) ⟨none,none,rfl⟩ ?_ ?_⟩
   ·rintro i x σ H' R hi ⟨u,v,rfl⟩ sm kk
    obtain ⟨p,ch,rfl,_,hch,k,m,_,h1,h2,h3⟩:=item hi
    have ek:Y4 (ZV n B) i=((ZP ch.xs).length:Int):=by
     unfold Y4 ZP
     rw [hch,List.length_map]
     rfl
    refine ⟨p,_,rfl,SqT.of (sm _ _ h1),rfl,_,_,rfl,_,_,rfl,rfl,?_⟩
    refine ⟨_,rfl,m,_,rfl,.inl (SqL.of (sm _ _ h3)),?_⟩
    rw [<- ek]
    exact kk _ _ ⟨_,_,rfl⟩ (Same.refl _)
   ·intro H2 sm2 hl2'
    rw [Z2,hpl] at hl2'
    refine ⟨l2,(List.range (ZV n B).length).map (Y4 (ZV n B)),rfl,SqL.of (by rw [hl2',List.map_map]; rfl),by rw [List.length_map,List.length_range]; exact hpos,fun mn hmn hle=>?_⟩
    obtain ⟨i0,fl⟩:=Zbw (Y4 (ZV n B)) _ hpos
    have emn:mn=Y4 (ZV n B) i0:=by
     obtain ⟨j,hj,rfl⟩:=List.mem_map.mp hmn
     have h1:=fl.le j (List.mem_range.mp hj)
     have h2:=hle (Y4 (ZV n B) i0) (List.mem_map.mpr ⟨i0,List.mem_range.mpr fl.lt,rfl⟩)
     omega
    have hl3:=sm2 _ _ hl
    refine ⟨_,rfl,l,rfl,⟨_,SqL.of hl3⟩,fun l4 hl4=>ZO (fun i=>if decide (Y4 (ZV n B) i=mn)=true then some (.ref (ps.getD i 0)) else none) (fun σ=>∃ v,σ=[v,some (.int mn)]) Jz (by rw [hpl]; exact Nat.le_of_lt (ZD (by exact Om.b1 ‹_› rfl))) hl4 (fun H' sm=>SqL.of (sm _ _ hl3)) ⟨none,rfl⟩ ?_ ?_⟩
    ·rintro i x σ H' R hi ⟨v,rfl⟩ sm kk
     obtain ⟨p,ch,rfl,hpi,hch,k,m,_,h1,h2,h3⟩:=item hi
     have ek:((ZP ch.xs).length:Int)=Y4 (ZV n B) i:=by
      unfold Y4 ZP
      rw [hch,List.length_map]
      rfl
     have ep:ps.getD i 0=p:=by rw [List.getD_eq_getElem?_getD,hpi]; rfl
     refine ⟨_,rfl,p,_,(1:Int),.ref m,rfl,rfl,SqT.of (sm _ _ (sm2 _ _ h1)),rfl,m,_,rfl,.inl (SqL.of (sm _ _ (sm2 _ _ h3))),_,rfl,rfl,_,rfl,?_⟩
     rw [ek]
     have kk':=fun v'=>kk [v',some (.int mn)] H' ⟨v',rfl⟩ (Same.refl _)
     have ed:decide (V.int (Y4 (ZV n B) i)=V.int mn)=decide (Y4 (ZV n B) i=mn):=decide_eq_decide.mpr ⟨fun z=>by injection z,fun z=>by rw [z]⟩
     rw [ed]
     cases hb:decide (Y4 (ZV n B) i=mn) with
     | true =>
      rw [hb,if_pos rfl,ep] at kk'
      exact Y5 ⟨_,rfl,kk' _⟩
     | false =>
      rw [hb,if_neg (by simp)] at kk'
      exact Yx (kk' _)
    ·intro H4 sm4 hl4'
     have hi0:i0<ps.length:=by rw [hlen]; exact fl.lt
     have e0:((List.range (ps.map V.ref).length).filterMap fun i=>if decide (Y4 (ZV n B) i=mn)=true then some (V.ref (ps.getD i 0)) else none)[0]? = some (.ref ps[i0]):=by
      refine ZbD _ (by rw [hpl]; exact fl.lt) ?_ fun j hj=>?_
      ·rw [if_pos (decide_eq_true emn.symm),List.getD_eq_getElem?_getD,List.getElem?_eq_getElem hi0]
       rfl
      ·have:=fl.fst j hj
       rw [if_neg (by rw [decide_eq_true_eq]; exact Om.k69 emn this)]
     refine ⟨l4,_,0,_,rfl,rfl,SqL.of hl4',ZF (i:=0) e0,?_⟩
     obtain ⟨ch,h1,h2⟩:=Paired.getL hP (List.getElem?_eq_getElem hi0)
     exact q _ H4 ch (sm1.trans (sm2.trans sm4)) ⟨i0,h1,fl⟩ (h2.same (sm2.trans sm4))
end
noncomputable def ZQ (nm:Str) (a b t:Nat):Nat × Nat × Nat:=if nm = "cell" then (a,b,t) else if nm = "row" then (a,t,b) else (t,a,b)
inductive Zet (vs:List V) (H:Hp) (Q:VK):Prop where
 | mk (g k:Addr) (n:Nat) (B:List (List V)) (nm:Str) (a b t:Nat) (_:vs=[.ref g,.ref k,.int (t:Int)]) (_:GridT H g B) (_:Sq n B) (_:n<=6) (_:H k=some (.tup [.str nm,.int (a:Int),.int (b:Int)])) (_:(ZQ nm a b t).1<n) (_:(ZQ nm a b t).2.1<n) (_:∀ p H',Same H H'->GridT H' p (Jr B (ZQ nm a b t).1 (ZQ nm a b t).2.1 (.int ((ZQ nm a b t).2.2:Int)))->Q (.ref p) H'):Zet vs H Q
noncomputable def Js:Sp:=fun vs H Q _=>Zet vs H Q
section
variable {P:Program} {w:World} {K:PySem.W.Frag} {mg:Str->Option Value} {base:Heap}
theorem ZiE:Zt ["_law_begun_here","_law_choice","_law_number"] ["_law_begun_here","_law_choice","_law_number"] (Zf Zbn):=⟨rfl,rfl,rfl,by decide +kernel,rfl,by decide +kernel,by decide +kernel⟩
theorem ZhK {f fP:Addr} {fd dP:FuncData} (F:Fun K "_law_with" "_law_with" Zbn f fd) (T:Blt mg) (DP:Dfn K mg "_law_put" JA ["_law_begun_here","_law_row","_law_column","_law_thing"] fP dP):FnOk P w K mg base CX0 2 f fd ["_law_begun_here","_law_choice","_law_number"] Js:=by
 have GP:FnOk P w K mg base CX0 1 fP dP ["_law_begun_here","_law_row","_law_column","_law_thing"] Jw:=ZaE DP.F T
 refine F.ok ZiE (fun vs H Q E h=>?_) (fun cdv A outer s H vs Q E hr h=>?_)
 ·obtain ⟨_,_,_,_,_,_,_,_,rfl,_⟩:=h
  rfl
 ·obtain ⟨g,k,n,B,nm,a,b,t,rfl,G,S,hn,hk,h1,h2,q⟩:=h
  refine' ⟨_,Ze (ZZ ?c0 (Zg (Zv ?r0)) ZE) (Ze (ZZ ?c1 (Zg (Zv ?r1)) ZE) (Zg (Zv ?r2))),?rd⟩
  case c0=>exact Zx JD (Zz ZI (pv 1) Zi (fun _ _=>rfl)) Z0 (ZN _)
  case c1=>exact Zx JD (Zz ZI (pv 1) Zi (fun _ _=>rfl)) Z0 (ZN _)
  case r0=>exact Zk GP hr rfl DP.m DP.F.kp DP.b .nil ZA (Za (pv 0) (Za (Zz ZI (pv 1) Zi (fun _ _=>rfl)) (Za (Zz ZI (pv 1) Zi (fun _ _=>rfl)) (Za (pv 2) Zc))))
  case r1=>exact Zk GP hr rfl DP.m DP.F.kp DP.b .nil ZA (Za (pv 0) (Za (Zz ZI (pv 1) Zi (fun _ _=>rfl)) (Za (pv 2) (Za (Zz ZI (pv 1) Zi (fun _ _=>rfl)) Zc))))
  case r2=>exact Zk GP hr rfl DP.m DP.F.kp DP.b .nil ZA (Za (pv 0) (Za (pv 2) (Za (Zz ZI (pv 1) Zi (fun _ _=>rfl)) (Za (Zz ZI (pv 1) Zi (fun _ _=>rfl)) Zc))))
  case rd =>
   have hk':=SqT.of (K:=K) hk
   refine ⟨_,rfl,k,_,(0:Int),.str nm,rfl,rfl,hk',rfl,rfl,_,rfl,YD (fun hc=>?_) (fun hc=>?_)⟩
   ·have e:nm = "cell":=by have:=of_decide_eq_true hc; injection this
    unfold ZQ at h1 h2 q
    rw [if_pos e] at h1 h2 q
    exact ⟨_,rfl,_,rfl,k,_,(1:Int),.int (a:Int),rfl,rfl,hk',rfl,_,rfl,k,_,(2:Int),.int (b:Int),rfl,rfl,hk',rfl,_,rfl,g,n,B,a,b,.int (t:Int),rfl,G,S,hn,h1,h2,fun p H' sm Gp=>q p H' sm Gp⟩
   ·have e:¬ nm = "cell":=fun z=>hc (decide_eq_true (by rw [z]))
    refine ⟨_,rfl,k,_,(0:Int),.str nm,rfl,rfl,hk',rfl,rfl,_,rfl,YD (fun hc2=>?_) (fun hc2=>?_)⟩
    ·have e2:nm = "row":=by have:=of_decide_eq_true hc2; injection this
     unfold ZQ at h1 h2 q
     rw [if_neg e,if_pos e2] at h1 h2 q
     exact ⟨_,rfl,_,rfl,k,_,(1:Int),.int (a:Int),rfl,rfl,hk',rfl,_,rfl,_,rfl,k,_,(2:Int),.int (b:Int),rfl,rfl,hk',rfl,g,n,B,a,t,.int (b:Int),rfl,G,S,hn,h1,h2,fun p H' sm Gp=>q p H' sm Gp⟩
    ·have e2:¬ nm = "row":=fun z=>hc2 (decide_eq_true (by rw [z]))
     unfold ZQ at h1 h2 q
     rw [if_neg e,if_neg e2] at h1 h2 q
     exact ⟨_,rfl,_,rfl,_,rfl,k,_,(1:Int),.int (a:Int),rfl,rfl,hk',rfl,_,rfl,k,_,(2:Int),.int (b:Int),rfl,rfl,hk',rfl,g,n,B,t,a,.int (b:Int),rfl,G,S,hn,h1,h2,fun p H' sm Gp=>q p H' sm Gp⟩
end
theorem ZkY {n:Nat} {B:List (List V)} {ch:Ch} (h:ch∈ZV n B):ch.a<n/\ch.b<n/\∀ t∈ch.xs,t<n/\(ZQ ch.nm ch.a ch.b t).1<n/\(ZQ ch.nm ch.a ch.b t).2.1<n:=by
 have key:ch.a<n/\ch.b<n/\∀ t∈ch.xs,t<n:=by
  have line:∀ {nm:Str} {L Cr:List (List V)},ch∈ZX nm n L Cr n->ch.a<n/\ch.b<n/\∀ t∈ch.xs,t<n:=fun {nm L Cr} h=>by
   obtain ⟨r,hr,hm⟩:=List.mem_flatMap.mp h
   obtain ⟨t,ht,rfl⟩:=List.mem_map.mp hm
   exact ⟨List.mem_range.mp hr,(mem_rangeF.mp ht).1,fun u hu=>(mem_rangeF.mp hu).1⟩
  rcases List.mem_append.mp h with h | h
  ·rcases List.mem_append.mp h with h | h
   ·obtain ⟨r,hr,hm⟩:=List.mem_flatMap.mp h
    obtain ⟨t,ht,rfl⟩:=List.mem_map.mp hm
    exact ⟨List.mem_range.mp hr,(mem_rangeF.mp ht).1,fun u hu=>(mem_rangeF.mp hu).1⟩
   ·exact line h
  ·exact line h
 refine ⟨key.1,key.2.1,fun t ht=>⟨key.2.2 t ht,?_⟩⟩
 have:=key.2.2 t ht
 unfold ZQ
 split
 ·exact ⟨key.1,key.2.1⟩
 ·split
  ·exact ⟨key.1,this⟩
  ·exact ⟨this,key.1⟩
theorem IsFirst.mem {n:Nat} {B:List (List V)} {ch:Ch} (h:IsFirst n B ch):ch∈ZV n B:=let ⟨_,e,_⟩:=h; List.mem_of_getElem? e
end My
namespace My
open PySem L2
noncomputable def Y6 (n:Nat) (B:List (List V)):Prop:=∀ r c,r<n->c<n->at2 B r c ≠ .non
theorem Zki:bootBuiltins "all" = some (Value.builtin "all"):=by decide +kernel
theorem ZbN {n:Nat} {B:List (List V)} (S:Sq n B) {r:Nat} (hr:r<n):inV .non (Zj B r)=true↔∃ c,c<n/\at2 B r c = .non:=by
 unfold inV
 rw [List.any_eq_true]
 have hl:=(S.rowAt hr).2.1
 constructor
 ·rintro ⟨v,hv,e⟩
  obtain ⟨c,hc,rfl⟩:=List.getElem_of_mem hv
  rw [hl] at hc
  refine ⟨c,hc,?_⟩
  have h1:=S.entAt hr hc
  rw [List.getElem?_eq_getElem (by assumption)] at h1
  have e1:=Option.some.inj h1.1
  rcases h1.2 with z | ⟨k,z⟩
  ·exact z
  ·rw [e1,z] at e; cases e
 ·rintro ⟨c,hc,e⟩
  refine ⟨.non,?_,rfl⟩
  rw [<- e]
  exact List.mem_of_getElem? (S.entAt hr hc).1
inductive Zct (K:PySem.W.Frag) (vs:List V) (H:Hp) (Q:VK):Prop where
 | mk (a:Addr) (n:Nat) (B:List (List V)) (_:vs=[.ref a]) (_:Grid K H a B) (_:Sq n B) (_:n<=6) (_:(Y6 n B->∀ H',Same H H'->Q (.bl true) H')) (_:((∃ r c,r<n/\c<n/\at2 B r c = .non)->∀ H',Same H H'->Q (.bl false) H')):Zct K vs H Q
noncomputable def Za7 (K:PySem.W.Frag):Sp:=fun vs H Q _=>Zct K vs H Q
section
variable {P:Program} {w:World} {K:PySem.W.Frag} {mg:Str->Option Value} {base:Heap}
theorem Zgp:Zt ["begun"] ["begun"] (Zf YY):=⟨rfl,rfl,rfl,by decide +kernel,rfl,by decide +kernel,by decide +kernel⟩
theorem Zb7 {f:Addr} {fd:FuncData} (F:Fun K "is_whole" "is_whole" YY f fd) (T:Blt mg):FnOk P w K mg base CX0 1 f fd ["begun"] (Za7 K):=by
 refine F.ok Zgp (fun vs H Q E h=>?_) (fun cdv A outer s H vs Q E hr h=>?_)
 ·obtain ⟨_,_,_,rfl,_⟩:=h
  rfl
 ·obtain ⟨a,n,B,rfl,G,S,hn,q1,q2⟩:=h
  obtain ⟨ps,hx,hR⟩:=id G
  have hxl:(ps.map V.ref).length=n:=by rw [List.length_map,hR.length,S.len]
  refine ⟨_,Zg (Zv (Zw (Zcq rfl K) rfl T.all Zki (Za (Y7 ["row"] [none] rfl rfl (Zaq K (pv 0)) (fun _ _ _ _ _=>Jo 0) (fun _ _ _ _ _=>YH) (fun _ _ _ _ _=>Zdx (Yt K) JL (pv 0) rfl)) Zc))),?_⟩
  refine ⟨_,rfl,a,rfl,⟨_,hx⟩,fun l hl=>ZO (fun i=>some (.bl (!inV .non (Zj B i)))) (fun σ=>∃ v,σ=[v]) Zan (by rw [hxl]; exact Zs (by exact Om.b1 ‹_› rfl)) hl (fun H' sm=>sm.seqT hx) ⟨none,rfl⟩ ?_ ?_⟩
  ·rintro i x σ H' R hi ⟨v,rfl⟩ sm kk
   obtain ⟨p,rfl,hin,hp⟩:=JE hR S hi
   exact ⟨_,rfl,p,_,rfl,.inr (sm.seqT hp),rfl,Jq S hin,kk _ _ ⟨_,rfl⟩ (Same.refl _)⟩
  ·intro H2 sm2 hl2
   rw [Z2,hxl] at hl2
   refine ⟨l,(List.range n).map fun i=>!inV .non (Zj B i),rfl,SqL.of (by rw [hl2,List.map_map]; rfl),?_⟩
   by_cases hF:∃ r c,r<n/\c<n/\at2 B r c = .non
   ·have e:((List.range n).map fun i=>!inV .non (Zj B i)).all id=false:=by
     obtain ⟨r,c,hr,hc,he⟩:=hF
     rw [List.all_map]
     refine Bool.eq_false_iff.mpr fun z=>?_
     have:=List.all_eq_true.mp z r (List.mem_range.mpr hr)
     have h2:inV .non (Zj B r)=true:=(ZbN S hr).mpr ⟨c,hc,he⟩
     simp [h2] at this
    rw [e]
    exact q2 hF H2 sm2
   ·have e:((List.range n).map fun i=>!inV .non (Zj B i)).all id=true:=by
     rw [List.all_map]
     refine List.all_eq_true.mpr fun r hr=>?_
     have hr':=List.mem_range.mp hr
     cases h2:inV .non (Zj B r) with
     | false=>simp [h2]
     | true =>
      obtain ⟨c,hc,he⟩:=(ZbN S hr').mp h2
      exact absurd ⟨r,c,hr',hc,he⟩ hF
    rw [e]
    exact q1 (fun r c hr hc he=>hF ⟨r,c,hr,hc,he⟩) H2 sm2
theorem scWithE:Zt ["begun","row","column","entry","changed"] ["begun","row","column","entry"] (Zf J4):=⟨rfl,rfl,rfl,by decide +kernel,rfl,by decide +kernel,by decide +kernel⟩
theorem ZhL {f:Addr} {fd:FuncData} (F:Fun K "with_entry" "with_entry" J4 f fd) (T:Blt mg):FnOk P w K mg base CX0 1 f fd ["begun","row","column","entry"] Jw:=by
 refine F.ok scWithE (fun vs H Q E h=>?_) (fun cdv A outer s H vs Q E hr h=>?_)
 ·obtain ⟨a,n,B,r,c,v,rfl,_⟩:=h
  rfl
 ·obtain ⟨a,n,B,r,c,v,rfl,⟨ps,ha,hP⟩,S,hn,hrn,hcn,k⟩:=h
  refine ⟨_,Ze (Zq (i:=4) scWithE.nd rfl (Or.inl rfl) (Zl (Jf K) (Zl (Jf K) (Yn J0 (Zz ZI (pv 0) (pv 1) (fun _ _=>rfl)) YU (Yy (pv 2))) (ZH (Za (pv 3) Zc)))
    (Yn J0 (Zz ZI (pv 0) (pv 1) (fun _ _=>rfl)) (Yy (Zl Yg (pv 2) Zi)) YU)))
   (Zg (Zv (Zl (Jf K) (Zl (Jf K) (Yn J0 (pv 0) YU (Yy (pv 1))) (ZH (Za (pv 4) Zc))) (Yn J0 (pv 0) (Yy (Zl Yg (pv 1) Zi)) YU)))),?_⟩
  have hxl:(ps.map V.ref).length=n:=by rw [List.length_map,hP.length,S.len]
  obtain ⟨pr,hpr,hrow⟩:=Paired.getR hP (S.rowAt hrn).1
  have hpr':(ps.map V.ref)[r]? = some (.ref pr):=by rw [List.getElem?_map,hpr]; rfl
  have hrl:=(S.rowAt hrn).2.1
  have hc1:((c:Int)+1)=((c+1:Nat):Int):=rfl
  have hr1:((r:Int)+1)=((r+1:Nat):Int):=rfl
  refine ⟨_,rfl,_,rfl,a,_,_,_,rfl,rfl,SqT.of ha,ZF hpr',_,rfl,_,rfl,pr,_,rfl,SqT.of hrow,(by rw [hrl]; exact Jg hcn),fun p1 hp1=>?_⟩
  rw [ZdM _ (by rw [hrl]; exact Om.d1 ‹_›)]
  have sm1:Same H (upd H p1 (.tup ((Zj B r).take c))):=Same.new hp1
  refine ⟨_,rfl,(show 1<=sizeLine from Zs (by decide)),fun p2 hp2=>?_⟩
  have sm2:Same (upd H p1 (.tup ((Zj B r).take c))) (upd (upd H p1 (.tup ((Zj B r).take c))) p2 (.tup [v])):=Same.new hp2
  refine ⟨p1,p2,_,_,rfl,rfl,sm2 _ _ Zd,Zd,?_,fun p3 H3 sm3 h3=>?_⟩
  ·rw [List.length_take,hrl]
   show min c n+1<=sizeLine
   exact Zs (by exact Om.k68 hn hrn hcn hxl hrl)
  have smA:Same H H3:=(sm1.trans sm2).trans sm3
  refine ⟨_,rfl,_,rfl,a,_,_,_,rfl,rfl,SqT.of (smA _ _ ha),ZF hpr',_,rfl,_,_,rfl,rfl,_,rfl,pr,_,rfl,SqT.of (smA _ _ hrow),(by rw [hc1,hrl]; exact YI hcn),fun p4 hp4=>?_⟩
  rw [hc1,ZaY _ (by rw [hrl]; exact Om.f1 ‹_›)]
  have sm4:Same H3 (upd H3 p4 (.tup ((Zj B r).drop (c+1)))):=Same.new hp4
  refine ⟨p3,p4,_,_,rfl,rfl,sm4 _ _ h3,Zd,?_,fun p5 H5 sm5 h5=>?_⟩
  ·rw [List.length_append,List.length_take,List.length_drop,hrl]
   show min c n+1+(n - (c+1))<=sizeLine
   exact Zs (by exact Om.k66 hn hcn hxl hrl)
  have h5':H5 p5=some (.tup (J3 (Zj B r) c v)):=by rw [h5,List.append_assoc]; rfl
  have smB:Same H H5:=(smA.trans sm4).trans sm5
  refine ⟨_,rfl,_,rfl,_,rfl,a,_,rfl,SqT.of (smB _ _ ha),(by rw [hxl]; exact Jg hrn),fun p6 hp6=>?_⟩
  rw [ZdM _ (by rw [hxl]; exact Om.d1 ‹_›)]
  have sm6:Same H5 (upd H5 p6 (.tup ((ps.map V.ref).take r))):=Same.new hp6
  refine ⟨_,rfl,(show 1<=sizeLine from Zs (by decide)),fun p7 hp7=>?_⟩
  have sm7:Same (upd H5 p6 (.tup ((ps.map V.ref).take r))) (upd (upd H5 p6 (.tup ((ps.map V.ref).take r))) p7 (.tup [.ref p5])):=Same.new hp7
  refine ⟨p6,p7,_,_,rfl,rfl,sm7 _ _ Zd,Zd,?_,fun p8 H8 sm8 h8=>?_⟩
  ·rw [List.length_take,hxl]
   show min r n+1<=sizeLine
   exact Zs (by exact Om.k67 hn hrn hcn hxl hrl)
  have smC:Same H5 H8:=(sm6.trans sm7).trans sm8
  refine ⟨_,rfl,_,rfl,_,_,rfl,rfl,_,rfl,a,_,rfl,SqT.of (smC _ _ (smB _ _ ha)),(by rw [hr1,hxl]; exact YI hrn),fun p9 hp9=>?_⟩
  rw [hr1,ZaY _ (by rw [hxl]; exact Om.f1 ‹_›)]
  have sm9:Same H8 (upd H8 p9 (.tup ((ps.map V.ref).drop (r+1)))):=Same.new hp9
  refine ⟨p8,p9,_,_,rfl,rfl,sm9 _ _ h8,Zd,?_,fun p10 H10 sm10 h10=>?_⟩
  ·rw [List.length_append,List.length_take,List.length_drop,hxl]
   show min r n+1+(n - (r+1))<=sizeLine
   exact Zs (by exact Om.k66 hn hrn hxl hrl)
  have smD:Same H5 H10:=(smC.trans sm9).trans sm10
  refine k p10 H10 (smB.trans smD) ⟨ps.take r++p5::ps.drop (r+1),?_,?_⟩
  ·rw [h10,List.map_append,List.map_cons,List.map_take,List.map_drop,List.append_assoc]
   rfl
  ·exact Paired.append (Paired.mapP (Paired.take r hP) fun _ _ q=>(smB.trans smD) _ _ q) (.cons (smD _ _ h5') (Paired.mapP (Paired.drop (r+1) hP) fun _ _ q=>(smB.trans smD) _ _ q))
theorem ZiF:Zt ["begun","choice","number"] ["begun","choice","number"] (Zf JG):=⟨rfl,rfl,rfl,by decide +kernel,rfl,by decide +kernel,by decide +kernel⟩
theorem ZaO {f fP:Addr} {fd dP:FuncData} (F:Fun K "with_chosen" "with_chosen" JG f fd) (T:Blt mg) (DP:Dfn K mg "with_entry" J4 ["begun","row","column","entry"] fP dP):FnOk P w K mg base CX0 2 f fd ["begun","choice","number"] Js:=by
 have GP:FnOk P w K mg base CX0 1 fP dP ["begun","row","column","entry"] Jw:=ZhL DP.F T
 refine F.ok ZiF (fun vs H Q E h=>?_) (fun cdv A outer s H vs Q E hr h=>?_)
 ·obtain ⟨_,_,_,_,_,_,_,_,rfl,_⟩:=h
  rfl
 ·obtain ⟨g,k,n,B,nm,a,b,t,rfl,G,S,hn,hk,h1,h2,q⟩:=h
  refine' ⟨_,Ze (ZZ ?c0 (Zg (Zv ?r0)) ZE) (Ze (ZZ ?c1 (Zg (Zv ?r1)) ZE) (Zg (Zv ?r2))),?rd⟩
  case c0=>exact Zx JD (Zz ZI (pv 1) Zi (fun _ _=>rfl)) Z0 (ZN _)
  case c1=>exact Zx JD (Zz ZI (pv 1) Zi (fun _ _=>rfl)) Z0 (ZN _)
  case r0=>exact Zk GP hr rfl DP.m DP.F.kp DP.b .nil ZA (Za (pv 0) (Za (Zz ZI (pv 1) Zi (fun _ _=>rfl)) (Za (Zz ZI (pv 1) Zi (fun _ _=>rfl)) (Za (pv 2) Zc))))
  case r1=>exact Zk GP hr rfl DP.m DP.F.kp DP.b .nil ZA (Za (pv 0) (Za (Zz ZI (pv 1) Zi (fun _ _=>rfl)) (Za (pv 2) (Za (Zz ZI (pv 1) Zi (fun _ _=>rfl)) Zc))))
  case r2=>exact Zk GP hr rfl DP.m DP.F.kp DP.b .nil ZA (Za (pv 0) (Za (pv 2) (Za (Zz ZI (pv 1) Zi (fun _ _=>rfl)) (Za (Zz ZI (pv 1) Zi (fun _ _=>rfl)) Zc))))
  case rd =>
   have hk':=SqT.of (K:=K) hk
   refine ⟨_,rfl,k,_,(0:Int),.str nm,rfl,rfl,hk',rfl,rfl,_,rfl,YD (fun hc=>?_) (fun hc=>?_)⟩
   ·have e:nm = "cell":=by have:=of_decide_eq_true hc; injection this
    unfold ZQ at h1 h2 q
    rw [if_pos e] at h1 h2 q
    exact ⟨_,rfl,_,rfl,k,_,(1:Int),.int (a:Int),rfl,rfl,hk',rfl,_,rfl,k,_,(2:Int),.int (b:Int),rfl,rfl,hk',rfl,_,rfl,g,n,B,a,b,.int (t:Int),rfl,G,S,hn,h1,h2,fun p H' sm Gp=>q p H' sm Gp⟩
   ·have e:¬ nm = "cell":=fun z=>hc (decide_eq_true (by rw [z]))
    refine ⟨_,rfl,k,_,(0:Int),.str nm,rfl,rfl,hk',rfl,rfl,_,rfl,YD (fun hc2=>?_) (fun hc2=>?_)⟩
    ·have e2:nm = "row":=by have:=of_decide_eq_true hc2; injection this
     unfold ZQ at h1 h2 q
     rw [if_neg e,if_pos e2] at h1 h2 q
     exact ⟨_,rfl,_,rfl,k,_,(1:Int),.int (a:Int),rfl,rfl,hk',rfl,_,rfl,_,rfl,k,_,(2:Int),.int (b:Int),rfl,rfl,hk',rfl,g,n,B,a,t,.int (b:Int),rfl,G,S,hn,h1,h2,fun p H' sm Gp=>q p H' sm Gp⟩
    ·have e2:¬ nm = "row":=fun z=>hc2 (decide_eq_true (by rw [z]))
     unfold ZQ at h1 h2 q
     rw [if_neg e,if_neg e2] at h1 h2 q
     exact ⟨_,rfl,_,rfl,_,rfl,k,_,(1:Int),.int (a:Int),rfl,rfl,hk',rfl,_,rfl,k,_,(2:Int),.int (b:Int),rfl,rfl,hk',rfl,g,n,B,t,a,.int (b:Int),rfl,G,S,hn,h1,h2,fun p H' sm Gp=>q p H' sm Gp⟩
theorem ZjN:Zt ["self","most"] ["self","most"] (Zf JS):=⟨rfl,rfl,rfl,by decide +kernel,rfl,by decide +kernel,by decide +kernel⟩
theorem ZfL {f:Addr} {fd:FuncData} (F:Fun K "__init__" "TooMany.__init__" JS f fd):FnOk P w K mg base CX0 1 f fd ["self","most"] (Zhh K "most"):=by
 refine F.ok ZjN (fun vs H Q E h=>?_) (fun cdv A outer s H vs Q E hr h=>?_)
 ·obtain ⟨e,v,C,fI,rfl,_⟩:=h
  rfl
 ·obtain ⟨e,v,C,fI,rfl,he,S,xi,k⟩:=h
  refine ⟨_,Zg (ZiM (pv 0) (pv 1)),?_⟩
  exact ⟨_,rfl,_,rfl,e,C,fI,rfl,he,S,xi,fun dx h1 h2=>k dx h1 h2⟩
structure LkF (K:PySem.W.Frag) (mg:Str->Option Value) (cM fM cL fI fK:Addr) (dM dI dK:FuncData):Prop where
 mM:mg "TooMany" = some (.ref cM)
 M1:MkE K cM fM
 S1:XSt K cM "most"
 F1:Fun K "__init__" "TooMany.__init__" JS fM dM
 b1:Binds K dM ["self","most"] []
 mL:mg "Looks" = some (.ref cL)
 cl:Cls K cL
 nM:NoAttr K cL "most"
 nL:NoAttr K cL "looked_at"
 mak:Mk K cL fI
 FI:Fun K "__init__" "Looks.__init__" J7 fI dI
 bI:Binds K dI ["self","most"] []
 me:Zkl K cL "look" fK
 FK:Fun K "look" "Looks.look" J6 fK dK
 bK:Binds K dK ["self"] []
noncomputable def lkO (cL dx:Addr) (far cnt:Int):HO:=.ins cL dx [("most",.int far),("looked_at",.int cnt)]
inductive Zgh (cL:Addr) (vs:List V) (H:Hp) (Q:VK):Prop where
 | mk (x dx:Addr) (far:Int) (_:vs=[.ref x,.int far]) (_:H x=some (.ins cL dx [])) (_:Q .non (upd (upd H x (.ins cL dx [("most",.int far)])) x (lkO cL dx far 0))):Zgh cL vs H Q
noncomputable def Zhg (cL:Addr):Sp:=fun vs H Q _=>Zgh cL vs H Q
inductive Zgf (cL cM:Addr) (vs:List V) (H:Hp) (Q:VK) (E:XK):Prop where
 | mk (x dx:Addr) (far cnt:Int) (_:vs=[.ref x]) (_:H x=some (lkO cL dx far cnt)) (_:(cnt+1<=far->Q .non (upd H x (lkO cL dx far (cnt+1))))) (_:(far<cnt+1->∀ d H',Stay x H H'->H' d=some (.xd [("most",.int far)])->H' x=some (lkO cL dx far (cnt+1))->E (.ref cM) (some d) H')):Zgf cL cM vs H Q E
noncomputable def Zhf (cL cM:Addr):Sp:=fun vs H Q E=>Zgf cL cM vs H Q E
variable {cM fM cL fI fK:Addr} {dM dI dK:FuncData}
theorem ZjO:Zt ["self","most"] ["self","most"] (Zf J7):=⟨rfl,rfl,rfl,by decide +kernel,rfl,by decide +kernel,by decide +kernel⟩
theorem ZiU (X:LkF K mg cM fM cL fI fK dM dI dK):FnOk P w K mg base CX0 1 fI dI ["self","most"] (Zhg cL):=by
 refine X.FI.ok ZjO (fun vs H Q E h=>?_) (fun cdv A outer s H vs Q E hr h=>?_)
 ·obtain ⟨_,_,_,rfl,_⟩:=h
  rfl
 ·obtain ⟨x,dx,far,rfl,hx,q⟩:=h
  refine ⟨_,Ze (Ze9 (pv 0) (pv 1) rfl) (Zg (Ze9 (pv 0) Zi rfl)),?_⟩
  exact ⟨_,rfl,_,rfl,x,cL,dx,[],rfl,hx,X.cl,X.nM,(by show 0<1000; decide),_,rfl,x,cL,dx,_,rfl,Zd,X.cl,X.nL,(by show 1<1000; decide),q⟩
theorem ZjM:Zt ["self"] ["self"] (Zf J6):=⟨rfl,rfl,rfl,by decide +kernel,rfl,by decide +kernel,by decide +kernel⟩
theorem ZiS (X:LkF K mg cM fM cL fI fK dM dI dK):FnOk P w K mg base (CX2 P w) 3 fK dK ["self"] (Zhf cL cM):=by
 have GI:FnOk P w K mg base CX0 1 fM dM ["self","most"] (Zhh K "most"):=ZfL X.F1
 refine X.FK.okX2 ZjM (fun vs H Q E h=>?_) (fun cdv A outer s H vs Q E hr h=>?_)
 ·obtain ⟨_,_,_,_,rfl,_⟩:=h
  rfl
 ·obtain ⟨x,dx,far,cnt,rfl,hx,q1,q2⟩:=h
  refine ⟨_,Ze (Ze9 (pv 0) (Zl Yg (Zdv (pv 0) rfl) Zi) rfl) (Zg (ZZ (Zx Zb4 (Zdv (pv 0) rfl) (Zdv (pv 0) rfl) (ZN _)) (Zg (ZcO X.M1 GI (hr.mono (by decide)) rfl X.mM X.b1 (Za (Zdv (pv 0) rfl) Zc))) ZE)),?_⟩
  refine ⟨_,rfl,x,cL,dx,_,_,rfl,hx,X.cl,X.nL,rfl,_,_,rfl,rfl,_,rfl,x,cL,dx,_,rfl,hx,X.cl,X.nL,(by show 2<1000; decide),?_⟩
  have e:upd H x (.ins cL dx (Zad "looked_at" (.int (cnt+1)) [("most",.int far),("looked_at",.int cnt)]))=upd H x (lkO cL dx far (cnt+1)):=rfl
  have hx2:(upd H x (lkO cL dx far (cnt+1))) x=some (lkO cL dx far (cnt+1)):=Zd
  refine ⟨_,rfl,x,cL,dx,_,_,rfl,hx2,X.cl,X.nL,rfl,_,rfl,x,cL,dx,_,_,rfl,hx2,X.cl,X.nM,rfl,_,_,rfl,rfl,_,rfl,YD (fun hc=>?_) (fun hc=>?_)⟩
  ·have hlt:far<cnt+1:=of_decide_eq_true hc
   refine ⟨_,rfl,x,cL,dx,_,_,rfl,hx2,X.cl,X.nM,rfl,(show 1<=sizeLine from Zs (by decide)),fun ee he=>⟨ee,.int far,cM,fM,rfl,Zd,X.S1,X.M1.xi,fun d hd hne=>⟨rfl,ee,d,rfl,?_,?_,?_⟩⟩⟩
   ·rw [Zh (Ne.symm hne),Zd]
   ·have hex:ee≠x:=fun z=>by rw [z,Zd] at he; cases he
    rw [Zh hex] at he
    exact he
   ·have hex:ee≠x:=fun z=>by rw [z,Zd] at he; cases he
    have he0:H ee=none:=by rw [Zh hex] at he; exact he
    have hdx:d≠x:=fun z=>by
     rw [z,Zh (Ne.symm hex),Zd] at hd
     cases hd
    have hd0:H d=none:=by
     rw [Zh hne,Zh hdx] at hd
     exact hd
    refine q2 hlt d _ (fun b u nb q=>?_) ?_ ?_
    ·have b2:b≠ee:=Zm q he0
     have b3:b≠d:=Zm q hd0
     rw [YE b2,Zh b3,Zh b2,Zh b2,Zh nb]
     exact q
    ·rw [YE hne,Zd]
    ·rw [YE (Ne.symm hex),Zh (Ne.symm hdx),Zh (Ne.symm hex),Zh (Ne.symm hex)]
     exact hx2
  ·have hle:cnt+1<=far:=by
    have:¬ far<cnt+1:=fun z=>hc (decide_eq_true z)
    omega
   exact q1 hle
end
end My
namespace My
open PySem L2
structure CaseOk (n:Nat) (B:List (List V)) (r0 c0 v0:Nat):Prop where
 r:r0<n
 c:c0<n
 v:v0<n
 non:at2 B r0 c0 = .non
 row:inV (.int (v0:Int)) (Zj B r0)=false
 col:inV (.int (v0:Int)) (Zj (ZC n B) c0)=false
theorem Y3 {b:Bool} (h:(!b)=true):b=false:=by cases b <;> simp_all
theorem YV {n:Nat} {B:List (List V)} {ch:Ch} {t:Nat} (h:ch∈ZV n B) (ht:t∈ch.xs):CaseOk n B (ZQ ch.nm ch.a ch.b t).1 (ZQ ch.nm ch.a ch.b t).2.1 (ZQ ch.nm ch.a ch.b t).2.2:=by
 rcases List.mem_append.mp h with h | h
 ·rcases List.mem_append.mp h with h | h
  ·obtain ⟨r,hr,hm⟩:=List.mem_flatMap.mp h
   obtain ⟨c,hc,rfl⟩:=List.mem_map.mp hm
   have hr':=List.mem_range.mp hr
   obtain ⟨hc',he⟩:=mem_rangeF.mp hc
   have e:ZQ "cell" r c t=(r,c,t):=by unfold ZQ; rw [if_pos rfl]
   show CaseOk n B (ZQ "cell" r c t).1 (ZQ "cell" r c t).2.1 (ZQ "cell" r c t).2.2
   rw [e]
   obtain ⟨h1,_⟩:=mem_rangeF.mp ht
   have h2:=Ji (B:=B) (r:=r) hc' h1
   rw [decide_eq_true ht] at h2
   have h3:=(Bool.and_eq_true _ _).mp h2.symm
   exact ⟨hr',hc',h1,of_decide_eq_true he,Y3 h3.1,Y3 h3.2⟩
  ·obtain ⟨r,hr,hm⟩:=List.mem_flatMap.mp h
   obtain ⟨u,hu,rfl⟩:=List.mem_map.mp hm
   have e:ZQ "row" r u t=(r,t,u):=by unfold ZQ; rw [if_neg (by decide),if_pos rfl]
   show CaseOk n B (ZQ "row" r u t).1 (ZQ "row" r u t).2.1 (ZQ "row" r u t).2.2
   rw [e]
   obtain ⟨h1,h2⟩:=mem_rangeF.mp ht
   obtain ⟨h3,h4⟩:=mem_rangeF.mp hu
   have h5:=(Bool.and_eq_true _ _).mp h2
   exact ⟨List.mem_range.mp hr,h1,h3,of_decide_eq_true h5.1,Y3 h4,Y3 h5.2⟩
 ·obtain ⟨c,hc,hm⟩:=List.mem_flatMap.mp h
  obtain ⟨u,hu,rfl⟩:=List.mem_map.mp hm
  have e:ZQ "column" c u t=(t,c,u):=by unfold ZQ; rw [if_neg (by decide),if_neg (by decide)]
  show CaseOk n B (ZQ "column" c u t).1 (ZQ "column" c u t).2.1 (ZQ "column" c u t).2.2
  rw [e]
  obtain ⟨h1,h2⟩:=mem_rangeF.mp ht
  obtain ⟨h3,h4⟩:=mem_rangeF.mp hu
  have h5:=(Bool.and_eq_true _ _).mp h2
  have hc':=List.mem_range.mp hc
  refine ⟨h1,hc',h3,?_,Y3 h5.2,Y3 h4⟩
  rw [<- Yh h1 hc']
  exact of_decide_eq_true h5.1
noncomputable def Zae (B:List (List V)) (ch:Ch) (t:Nat):List (List V):=Jr B (ZQ ch.nm ch.a ch.b t).1 (ZQ ch.nm ch.a ch.b t).2.1 (.int ((ZQ ch.nm ch.a ch.b t).2.2:Int))
section
variable {n:Nat} {B C:List (List V)} {r c v:Nat}
theorem CaseOk.sq (k:CaseOk n B r c v) (S:Sq n B):Sq n (Jr B r c (.int (v:Int))):=Zap S k.r k.c (.inr ⟨_,rfl⟩)
theorem CaseOk.lat (k:CaseOk n B r c v) (S:Sq n B) (L:Lat n B):Lat n (Jr B r c (.int (v:Int))):=by
 refine ZaI S L k.r k.c ?_
 rw [ZbK,Zbg,Ji k.c k.v,k.row,k.col]
 rfl
noncomputable def Ext (n:Nat) (B C:List (List V)):Prop:=∀ r c,r<n->c<n->at2 B r c = .non\/at2 C r c=at2 B r c
theorem Ext.refl (n:Nat) (B:List (List V)):Ext n B B:=fun _ _ _ _=>.inr rfl
theorem CaseOk.back (k:CaseOk n B r c v) (S:Sq n B) (e:Ext n (Jr B r c (.int (v:Int))) C):Ext n B C:=fun r' c' hr hc=>by
 have h:=e r' c' hr hc
 rw [Yk S k.r k.c] at h
 by_cases z:r'=r/\c'=c
 ·rw [z.1,z.2]
  exact .inl k.non
 ·rw [if_neg z] at h
  exact h
theorem CaseOk.on (k:CaseOk n B r c v) (S:Sq n B) (e:Ext n B C) (h:at2 C r c = .int (v:Int)):Ext n (Jr B r c (.int (v:Int))) C:=fun r' c' hr hc=>by
 rw [Yk S k.r k.c]
 by_cases z:r'=r/\c'=c
 ·rw [if_pos z,z.1,z.2]
  exact .inr h
 ·rw [if_neg z]
  exact e r' c' hr hc
noncomputable def emp (n:Nat) (B:List (List V)):Nat:=(YL n B (n*n)).length
theorem ZfX {p q:Nat->Bool}:∀ {l:List Nat},(∀ k∈l,q k=true->p k=true)->(∃ k∈l,p k=true/\q k=false)->(l.filter q).length<(l.filter p).length
 | [],_,⟨_,h,_⟩=>by cases h
 | x::l,h1,h2=>by
  have le:(l.filter q).length<=(l.filter p).length:=by
   clear h2
   have h1':∀ k∈l,q k=true->p k=true:=fun k hk=>h1 k (List.mem_cons_of_mem _ hk)
   clear h1
   induction l with
   | nil=>exact Nat.le_refl _
   | cons y l ih =>
    have:=ih fun k hk=>h1' k (List.mem_cons_of_mem _ hk)
    rw [List.filter_cons,List.filter_cons]
    cases hq:q y with
    | true=>simp [h1' y List.mem_cons_self hq]; exact this
    | false=>cases hp:p y <;> simp <;> omega
  rw [List.filter_cons,List.filter_cons]
  obtain ⟨k,hk,hp,hq⟩:=h2
  rcases List.mem_cons.mp hk with rfl | hk
  ·simp [hp,hq]
   exact Om.f3 ‹_›
  ·have ih:=ZfX (p:=p) (q:=q) (l:=l) (fun k hk=>h1 k (List.mem_cons_of_mem _ hk)) ⟨k,hk,hp,hq⟩
   cases hq':q x with
   | true=>simp [h1 x List.mem_cons_self hq']; exact ih
   | false=>cases hp':p x <;> simp <;> omega
theorem CaseOk.emp (k:CaseOk n B r c v) (S:Sq n B):emp n (Jr B r c (.int (v:Int)))<My.emp n B:=by
 unfold My.emp YL
 have hn:0<n:=Nat.lt_of_le_of_lt (Nat.zero_le _) k.r
 have hlt:r*n+c<n*n:=by
  have h1:(r+1)*n<=n*n:=Nat.mul_le_mul_right n k.r
  have h2:=k.c
  rw [Nat.succ_mul] at h1
  omega
 have hd:(r*n+c) / n=r:=by rw [Nat.mul_comm,Nat.mul_add_div hn,Nat.div_eq_of_lt k.c,Nat.add_zero]
 have hm:(r*n+c) % n=c:=by rw [Nat.mul_comm,Nat.mul_add_mod,Nat.mod_eq_of_lt k.c]
 refine ZfX (fun i hi hq=>?_) ⟨r*n+c,List.mem_range.mpr hlt,?_,?_⟩
 ·have:=of_decide_eq_true hq
  rw [Yk S k.r k.c] at this
  split at this
  ·cases this
  ·exact decide_eq_true this
 ·rw [hd,hm]
  exact decide_eq_true k.non
 ·rw [hd,hm,Yk S k.r k.c,if_pos ⟨rfl,rfl⟩]
  exact decide_eq_false (by intro z; cases z)
end
theorem ZbM {n:Nat} {B:List (List V)} (S:Sq n B) {r:Nat} (hr:r<n) (t:Int):inV (.int t) (Zj B r)=true↔∃ c,c<n/\at2 B r c = .int t:=by
 unfold inV
 rw [List.any_eq_true]
 have hl:=(S.rowAt hr).2.1
 constructor
 ·rintro ⟨v,hv,e⟩
  obtain ⟨c,hc,rfl⟩:=List.getElem_of_mem hv
  rw [hl] at hc
  refine ⟨c,hc,?_⟩
  have h1:=S.entAt hr hc
  rw [List.getElem?_eq_getElem (by assumption)] at h1
  have e1:=Option.some.inj h1.1
  rcases h1.2 with z | ⟨k,z⟩
  ·rw [e1,z] at e; cases e
  ·rw [e1,z,ZdK] at e
   rw [z,of_decide_eq_true e]
 ·rintro ⟨c,hc,e⟩
  refine ⟨.int t,?_,by rw [ZdK]; exact decide_eq_true rfl⟩
  rw [<- e]
  exact List.mem_of_getElem? (S.entAt hr hc).1
noncomputable def ZfT:V->Int
 | .int k=>k
 | _=>0
theorem ZfF {n:Nat} {C:List (List V)} (S:Sq n C) (L:Lat n C) (F:Y6 n C) {r t:Nat} (hr:r<n) (ht:t<n):∃ c,c<n/\at2 C r c = .int (t:Int):=by
 have ent:∀ c,c<n->∃ k:Int,at2 C r c = .int k/\0<=k/\k<n:=fun c hc=>by
  rcases L.ent r c hr hc with z | z
  ·exact absurd z (F r c hr hc)
  ·exact z
 have hm:(t:Int)∈(List.range n).map fun c=>ZfT (at2 C r c):=by
  refine ZfE (n:=n) (by simp) ?_ (fun x hx=>?_) ⟨by exact Om.c6,by exact Om.c5 ‹_›⟩
  ·refine List.pairwise_map.mpr (List.Pairwise.imp_of_mem (fun {a b} ha hb hab=>?_) List.pairwise_lt_range)
   obtain ⟨k1,e1,_⟩:=ent a (List.mem_range.mp ha)
   obtain ⟨k2,e2,_⟩:=ent b (List.mem_range.mp hb)
   rw [e1,e2]
   intro z
   have z':k1=k2:=z
   rcases L.row r a b hr (List.mem_range.mp ha) (List.mem_range.mp hb) (Nat.ne_of_lt hab) with y | y
   ·exact F r a hr (List.mem_range.mp ha) y
   ·exact y (by rw [e1,e2,z'])
  ·obtain ⟨c,hc,rfl⟩:=List.mem_map.mp hx
   obtain ⟨k,e,h1,h2⟩:=ent c (List.mem_range.mp hc)
   rw [e]
   exact ⟨h1,h2⟩
 obtain ⟨c,hc,e⟩:=List.mem_map.mp hm
 obtain ⟨k,e1,_⟩:=ent c (List.mem_range.mp hc)
 refine ⟨c,List.mem_range.mp hc,?_⟩
 rw [e1] at e ⊢
 have e':k=(t:Int):=e
 rw [e']
theorem Zg7 {n:Nat} {C:List (List V)} (L:Lat n C):Lat n (ZC n C):=by
 refine ⟨fun r c hr hc=>?_,fun r c c' hr hc hc' ne=>?_,fun r r' c hr hr' hc ne=>?_⟩
 ·rw [Yh hc hr]
  exact L.ent c r hc hr
 ·rw [Yh hc hr,Yh hc' hr]
  exact L.col c c' r hc hc' hr ne
 ·rw [Yh hc hr,Yh hc hr']
  exact L.row c r r' hc hr hr' ne
theorem Zgn {n:Nat} {C:List (List V)} (F:Y6 n C):Y6 n (ZC n C):=fun r c hr hc=>by
 rw [Yh hc hr]
 exact F c r hc hr
theorem Zjk {n:Nat} {C:List (List V)} (S:Sq n C) (L:Lat n C) (F:Y6 n C) {c t:Nat} (hc:c<n) (ht:t<n):∃ r,r<n/\at2 C r c = .int (t:Int):=by
 obtain ⟨r,hr,e⟩:=ZfF (Zao S) (Zg7 L) (Zgn F) hc ht
 rw [Yh hr hc] at e
 exact ⟨r,hr,e⟩
theorem ZdN {n:Nat} {B C:List (List V)} {ch:Ch} (S:Sq n B) (SC:Sq n C) (L:Lat n C) (F:Y6 n C) (E:Ext n B C) (h:ch∈ZV n B):∃ t∈ch.xs,at2 C (ZQ ch.nm ch.a ch.b t).1 (ZQ ch.nm ch.a ch.b t).2.1 = .int ((ZQ ch.nm ch.a ch.b t).2.2:Int):=by
 have noRow:∀ {r c t:Nat},r<n->c<n->at2 B r c = .non->at2 C r c = .int (t:Int)->inV (.int (t:Int)) (Zj B r)=false:=fun {r c t} hr hc he hv=>by
  refine Bool.eq_false_iff.mpr fun z=>?_
  obtain ⟨c',hc',e⟩:=(ZbM S hr _).mp z
  have hne:c'≠c:=fun y=>by rw [y,he] at e; cases e
  rcases E r c' hr hc' with y | y
  ·rw [y] at e; cases e
  ·rcases L.row r c' c hr hc' hc hne with x | x
   ·exact F r c' hr hc' x
   ·exact x (by rw [y,e,hv])
 have noCol:∀ {r c t:Nat},r<n->c<n->at2 B r c = .non->at2 C r c = .int (t:Int)->inV (.int (t:Int)) (Zj (ZC n B) c)=false:=fun {r c t} hr hc he hv=>by
  refine Bool.eq_false_iff.mpr fun z=>?_
  obtain ⟨r',hr',e⟩:=(ZbM (Zao S) hc _).mp z
  rw [Yh hr' hc] at e
  have hne:r'≠r:=fun y=>by rw [y,he] at e; cases e
  rcases E r' c hr' hc with y | y
  ·rw [y] at e; cases e
  ·rcases L.col r' r c hr' hr hc hne with x | x
   ·exact F r' c hr' hc x
   ·exact x (by rw [y,e,hv])
 rcases List.mem_append.mp h with h | h
 ·rcases List.mem_append.mp h with h | h
  ·obtain ⟨r,hr,hm⟩:=List.mem_flatMap.mp h
   obtain ⟨c,hc,rfl⟩:=List.mem_map.mp hm
   have hr':=List.mem_range.mp hr
   obtain ⟨hc',he⟩:=mem_rangeF.mp hc
   have he':at2 B r c = .non:=of_decide_eq_true he
   rcases L.ent r c hr' hc' with z | ⟨k,hk,k0,kn⟩
   ·exact absurd z (F r c hr' hc')
   obtain ⟨t,rfl⟩:∃ t:Nat,k=(t:Int):=⟨k.toNat,by exact Om.z1 ‹_›⟩
   refine ⟨t,?_,?_⟩
   ·have:=Ji (B:=B) (r:=r) hc' (show t<n by exact Om.k65 kn)
    rw [noRow hr' hc' he' hk,noCol hr' hc' he' hk] at this
    exact of_decide_eq_true this
   ·show at2 C (ZQ "cell" r c t).1 (ZQ "cell" r c t).2.1 = .int ((ZQ "cell" r c t).2.2:Int)
    rw [show ZQ "cell" r c t=(r,c,t) by unfold ZQ; rw [if_pos rfl]]
    exact hk
  ·obtain ⟨r,hr,hm⟩:=List.mem_flatMap.mp h
   obtain ⟨u,hu,rfl⟩:=List.mem_map.mp hm
   have hr':=List.mem_range.mp hr
   obtain ⟨hu',hl⟩:=mem_rangeF.mp hu
   obtain ⟨c,hc,e⟩:=ZfF SC L F hr' hu'
   have he:at2 B r c = .non:=by
    rcases E r c hr' hc with z | z
    ·exact z
    ·have:inV (.int (u:Int)) (Zj B r)=true:=(ZbM S hr' _).mpr ⟨c,hc,by rw [<- z]; exact e⟩
     rw [this] at hl
     cases hl
   refine ⟨c,mem_rangeF.mpr ⟨hc,?_⟩,?_⟩
   ·rw [noCol hr' hc he e]
    exact (Bool.and_eq_true _ _).mpr ⟨decide_eq_true he,rfl⟩
   ·show at2 C (ZQ "row" r u c).1 (ZQ "row" r u c).2.1 = .int ((ZQ "row" r u c).2.2:Int)
    rw [show ZQ "row" r u c=(r,c,u) by unfold ZQ; rw [if_neg (by decide),if_pos rfl]]
    exact e
 ·obtain ⟨c,hc,hm⟩:=List.mem_flatMap.mp h
  obtain ⟨u,hu,rfl⟩:=List.mem_map.mp hm
  have hc':=List.mem_range.mp hc
  obtain ⟨hu',hl⟩:=mem_rangeF.mp hu
  obtain ⟨r,hr,e⟩:=Zjk SC L F hc' hu'
  have he:at2 B r c = .non:=by
   rcases E r c hr hc' with z | z
   ·exact z
   ·have:inV (.int (u:Int)) (Zj (ZC n B) c)=true:=(ZbM (Zao S) hc' _).mpr ⟨r,hr,by rw [Yh hr hc',<- z]; exact e⟩
    rw [this] at hl
    cases hl
  refine ⟨r,mem_rangeF.mpr ⟨hr,?_⟩,?_⟩
  ·rw [noRow hr hc' he e]
   exact (Bool.and_eq_true _ _).mpr ⟨decide_eq_true (by rw [<- Yh hr hc'] at he; exact he),rfl⟩
  ·show at2 C (ZQ "column" c u r).1 (ZQ "column" c u r).2.1 = .int ((ZQ "column" c u r).2.2:Int)
   rw [show ZQ "column" c u r=(r,c,u) by unfold ZQ; rw [if_neg (by decide),if_neg (by decide)]]
   exact e
noncomputable def BookAt (N:Addr->Prop) (n:Nat) (H:Hp):Nat->List (List V)->Addr->Prop
 | 0,_,_=>False
 | f+1,B,b=>∃ (ch:Ch) (k l:Addr) (ps:List Addr),IsFirst n B ch/\N l/\H b=some (.tup [.ref k,.ref l])/\H k=some (.tup [.str ch.nm,.int (ch.a:Int),.int (ch.b:Int)])/\H l=some (.lst (ps.map V.ref)) /\
   Paired (fun p (t:Nat)=>∃ b',H p=some (.tup [.int (t:Int),.ref b'])/\BookAt N n H f (Zae B ch t) b') ps ch.xs
theorem BookAt.mono {N M:Addr->Prop} {n:Nat} {H H':Hp} (k1:∀ a xs,H a=some (.tup xs)->H' a=some (.tup xs)) (k2:∀ a xs,N a->H a=some (.lst xs)->H' a=some (.lst xs)) (k3:∀ a u,N a->H a=some u->M a) :
  ∀ (f:Nat) {B:List (List V)} {b:Addr},BookAt N n H f B b->BookAt M n H' f B b
 | 0,_,_,h=>h.elim
 | f+1,_,_,⟨ch,k,l,ps,fc,hN,h1,h2,h3,hP⟩=>⟨ch,k,l,ps,fc,k3 l _ hN h3,k1 _ _ h1,k1 _ _ h2,k2 _ _ hN h3,Paired.mapP hP fun p t zz0=> by obtain ⟨b',e,z⟩ := zz0; exact ⟨b',k1 _ _ e,BookAt.mono k1 k2 k3 f z⟩⟩
theorem Zec {N:Addr->Prop} {n:Nat} {H:Hp} {C:List (List V)} (SC:Sq n C) (L:Lat n C) (F:Y6 n C):∀ (f:Nat) {B:List (List V)} {b:Addr},BookAt N n H f B b->Sq n B->Ext n B C->False
 | 0,_,_,h,_,_=>h
 | f+1,B,b,⟨ch,k,l,ps,fc,_,_,_,_,hP⟩,S,E=>by
  obtain ⟨t,ht,e⟩:=ZdN S SC L F E fc.mem
  have ko:=YV fc.mem ht
  obtain ⟨i,hi,hti⟩:=List.getElem_of_mem ht
  obtain ⟨p,_,b',_,hb'⟩:=Paired.getR hP (show ch.xs[i]? = some t by rw [List.getElem?_eq_getElem hi,hti])
  exact Zec SC L F f hb' (ko.sq S) (ko.on S E e)
end My
namespace My
open PySem L2
noncomputable def runR (go:List (List V)->Int->Option (Bool × Int)->Prop) (B:List (List V)) (ch:Ch):List Nat->Int->Option (Bool × Int)->Prop
 | [],c,r=>r=some (false,c)
 | t::ts,c,r=>(go (Zae B ch t) c none/\r=none)\/(∃ c',go (Zae B ch t) c (some (true,c'))/\r=some (true,c'))\/∃ c',go (Zae B ch t) c (some (false,c'))/\runR go B ch ts c' r
noncomputable def goR (n:Nat) (far:Int):Nat->List (List V)->Int->Option (Bool × Int)->Prop
 | 0,_,_,_=>False
 | m+1,B,c,r=>(far<c+1/\r=none)\/(c+1<=far/\Y6 n B/\r=some (true,c+1))\/(c+1<=far/\¬ Y6 n B/\∃ ch,IsFirst n B ch/\runR (goR n far m) B ch ch.xs (c+1) r)
theorem runR.uniq {go:List (List V)->Int->Option (Bool × Int)->Prop} (hg:∀ B c r r',go B c r->go B c r'->r=r') {B:List (List V)} {ch:Ch}:∀ {l:List Nat} {c:Int} {r r':Option (Bool × Int)},runR go B ch l c r->runR go B ch l c r'->r=r'
 | [],c,r,r',h,h'=>h.trans h'.symm
 | t::ts,c,r,r',h,h'=>by
  rcases h with ⟨g,rfl⟩ | ⟨c1,g,rfl⟩ | ⟨c1,g,h⟩ <;> rcases h' with ⟨g',rfl⟩ | ⟨c2,g',rfl⟩ | ⟨c2,g',h'⟩
  ·rfl
  ·exact absurd (hg _ _ _ _ g g') (by intro z; cases z)
  ·exact absurd (hg _ _ _ _ g g') (by intro z; cases z)
  ·exact absurd (hg _ _ _ _ g g') (by intro z; cases z)
  ·exact hg _ _ _ _ g g'
  ·exact absurd (hg _ _ _ _ g g') (by intro z; injection z with z; injection z with z _; cases z)
  ·exact absurd (hg _ _ _ _ g g') (by intro z; cases z)
  ·exact absurd (hg _ _ _ _ g g') (by intro z; injection z with z; injection z with z _; cases z)
  ·have e:=hg _ _ _ _ g g'
   injection e with e
   injection e with _ e
   rw [e] at h
   exact runR.uniq hg h h'
theorem goR.uniq {n:Nat} {far:Int}:∀ (m:Nat) (B:List (List V)) (c:Int) (r r':Option (Bool × Int)),goR n far m B c r->goR n far m B c r'->r=r'
 | 0,_,_,_,_,h,_=>h.elim
 | m+1,B,c,r,r',h,h'=>by
  rcases h with ⟨g,rfl⟩ | ⟨g,f,rfl⟩ | ⟨g,f,ch,fc,h⟩ <;> rcases h' with ⟨g',rfl⟩ | ⟨g',f',rfl⟩ | ⟨g',f',ch',fc',h'⟩
  ·rfl
  ·exact (Om.k64 g g').elim
  ·exact (Om.k64 g g').elim
  ·exact (Om.k63 g g').elim
  ·rfl
  ·exact absurd f f'
  ·exact (Om.k63 g g').elim
  ·exact absurd f' f
  ·obtain rfl:=fc.uniq fc'
   exact runR.uniq (goR.uniq m) h h'
noncomputable def Told (b0:Bool) (N:Addr->Prop) (n:Nat) (B:List (List V)) (H:Hp) (m:Nat) (p:Addr):Prop :=
 (b0=true/\∃ q C,H p=some (.tup [.str "closed",.ref q])/\GridT H q C/\Sq n C/\Lat n C/\Y6 n C/\Ext n B C)\/(b0=false/\∃ b,H p=some (.tup [.str "cases",.ref b])/\BookAt N n H m B b)
inductive Zgi (Tb cL cM:Addr) (m:Nat) (vs:List V) (H:Hp) (Q:VK) (E:XK):Prop where
 | mk (g x dx:Addr) (far cnt:Int) (n:Nat) (B:List (List V)) (_:vs=[.ref g,.ref x]) (_:GridT H g B) (_:Sq n B) (_:Lat n B) (_:n<=6) (_:emp n B<m) (_:H x=some (lkO cL dx far cnt)) (_:H Tb=some (Zat Zcy)) (_:(∀ p H' cnt' b0,Stay x H H'->H' x=some (lkO cL dx far cnt')->goR n far m B cnt (some (b0,cnt'))->Told b0 (fun l=>H l=none) n B H' m p->Q (.ref p) H')) (_:∀ d H',Stay x H H'->H' d=some (.xd [("most",.int far)])->goR n far m B cnt none->E (.ref cM) (some d) H'):Zgi Tb cL cM m vs H Q E
noncomputable def Zhi (Tb cL cM:Addr) (m:Nat):Sp:=fun vs H Q E=>Zgi Tb cL cM m vs H Q E
theorem ZhX {cL dx:Addr} {far cnt:Int} (xs:List V):lkO cL dx far cnt ≠ .tup xs:=by intro z; cases z
section
variable {P:Program} {w:World} {K:PySem.W.Frag} {mg:Str->Option Value} {base:Heap}
variable {cM fM cL fI fK:Addr} {dM dI dK:FuncData} {fW fF fC fE Tb:Addr} {dW dF dC dE:FuncData}
structure GoD (P:Program) (w:World) (K:PySem.W.Frag) (mg:Str->Option Value) (base:Heap) (Tb cM fM cL fI fK fW fF fC:Addr) (dM dI dK dW dF dC:FuncData):Prop where
 T:Blt mg
 X:LkF K mg cM fM cL fI fK dM dI dK
 W:Dfn K mg "is_whole" YY ["begun"] fW dW
 F:Dfn K mg "first_choice" ZY ["begun"] fF dF
 C:Dfn K mg "with_chosen" JG ["begun","choice","number"] fC dC
 gF:FnOk P w K mg base CX0 4 fF dF ["begun"] (ZbG K Tb)
 gC:FnOk P w K mg base CX0 2 fC dC ["begun","choice","number"] Js
theorem scGone:Zt ["begun","looks","first","choice","cases","number","told"] ["begun","looks"] (Zf Zbo):=⟨rfl,rfl,rfl,by decide +kernel,rfl,by decide +kernel,by decide +kernel⟩
set_option maxHeartbeats 1600000 in
theorem ZfM {f:Addr} {fd:FuncData} (Z:GoD P w K mg base Tb cM fM cL fI fK fW fF fC dM dI dK dW dF dC) (D:Dfn K mg "gone_through" Zbo ["begun","looks"] f fd):∀ m:Nat,FnOk P w K mg base (CX2 P w) (m+6) f fd ["begun","looks"] (Zhi Tb cL cM m)
 | 0=>⟨fun vs H Q E h=>by obtain ⟨_,_,_,_,_,_,_,rfl,_⟩:=h; rfl,fun A outer s H args us vs Q E _ _ _ _ h=>by
   obtain ⟨_,_,_,_,_,_,_,_,_,_,_,_,hz,_⟩:=h
   exact absurd hz (Nat.not_lt_zero _)⟩
 | m+1=>by
  have G:=ZfM Z D m
  have T:=Z.T
  have X:=Z.X
  have GK:FnOk P w K mg base (CX2 P w) (m+6) fK dK ["self"] (Zhf cL cM):=(ZiS X).mono (by exact Om.k62 )
  have GW:FnOk P w K mg base CX0 (m+6) fW dW ["begun"] (Za7 K):=(Zb7 Z.W.F T).mono (by exact Om.k61 )
  have GF:FnOk P w K mg base CX0 (m+6) fF dF ["begun"] (ZbG K Tb):=Z.gF.mono (by exact Om.k60 )
  have GC:FnOk P w K mg base CX0 (m+6) fC dC ["begun","choice","number"] Js:=Z.gC.mono (by exact Om.k59 )
  refine D.F.okX2 scGone (fun vs H Q E h=>?_) (fun cdv A outer s H vs Q E hr h=>?_)
  ·obtain ⟨_,_,_,_,_,_,_,rfl,_⟩:=h
   rfl
  ·obtain ⟨g,x,dx,far,cnt,n,B,rfl,GB,S,L,hn,hem,hx,hTb,q,qE⟩:=h
   refine' ⟨_,Ze ?s0 (Ze (ZZ ?c1 (Zg (Zv ?r1)) ZE) (Ze ?s2 (Ze ?s3 (Ze ?s4 (Ze (Yf PassesOwn.leaving rfl ?i (ZG (i:=5) scGone.nd rfl (Or.inl rfl)) (Ze ?b0 (Ze (ZZ ?c2 (Zg (Zv (pv 6))) ZE) (Zg ?b2)))) (Zg (Zv ?r6))))))),?rd⟩
   case s0=>exact Ys (ZhD (pv 1) X.cl X.me GK hr X.bK .nil Zfb)
   case c1=>exact Zdt (Zk GW hr rfl Z.W.m Z.W.F.kp Z.W.b .nil ZA (Za (pv 0) Zc))
   case r1=>exact ZH (Za Z0 (Za (pv 0) Zc))
   case s2=>exact Zq (i:=2) scGone.nd rfl (Or.inl rfl) (Zk GF hr rfl Z.F.m Z.F.F.kp Z.F.b .nil ZA (Za (pv 0) Zc))
   case s3=>exact Zq (i:=3) scGone.nd rfl (Or.inl rfl) (Zz (ZT K) (pv 2) Zi (fun _ _=>rfl))
   case s4=>exact Zq (i:=4) scGone.nd rfl (Or.inl rfl) (Yv Zc)
   case i=>exact Jn K (Zz (ZT K) (pv 2) Zi (fun _ _=>rfl))
   case b0=>exact Zq (i:=6) scGone.nd rfl (Or.inl rfl) (Zk G hr rfl D.m D.F.kp D.b .nil Zfb (Za (Zk GC hr rfl Z.C.m Z.C.F.kp Z.C.b .nil ZA (Za (pv 0) (Za (pv 3) (Za (pv 5) Zc)))) (Za (pv 1) Zc)))
   case c2=>exact Zx JD (Zz (ZT K) (pv 6) Zi (fun _ _=>rfl)) Z0 (ZN _)
   case b2=>exact Ys (JC PySem.F.plainAttrs_list PySem.F.slot_list_append PySem.F.type_list_append Z5 (pv 4) (Za (ZH (Za (pv 5) (Za (Zz (ZT K) (pv 6) Zi (fun _ _=>rfl)) Zc))) Zc))
   case r6=>exact ZH (Za Z0 (Za (ZH (Za (pv 3) (Za (pv 4) Zc))) Zc))
   case rd =>
    have t2:2<=sizeLine:=Zs (by decide)
    have hTx:Tb≠x:=Yi hTb hx (by intro z; cases z)
    refine ⟨_,rfl,x,dx,_,rfl,hx,rfl,x,dx,far,cnt,rfl,hx,fun hle=>?_,fun hlt d H' st hd _=>qE d H' st hd (.inl ⟨hlt,rfl⟩)⟩
    have st1:Stay x H (upd H x (lkO cL dx far (cnt+1))):=(Stay.refl x H).put
    have hx1:(upd H x (lkO cL dx far (cnt+1))) x=some (lkO cL dx far (cnt+1)):=Zd
    have G1:=st1.grid hx ZhX GB
    have hT1:=st1 _ _ hTx hTb
    refine ⟨_,rfl,g,n,B,rfl,G1.grid,S,hn,fun hF H2 s2=>⟨_,rfl,Y5 ?_⟩,fun hE H2 s2=>⟨_,rfl,Yx ?_⟩⟩
    ·refine ⟨_,rfl,t2,fun p hp=>?_⟩
     have s3:Same H2 (upd H2 p (.tup [.str "closed",.ref g])):=Same.new hp
     have st3:=st1.trans (Stay.of (s2.trans s3))
     exact q p _ (cnt+1) true st3 ((s2.trans s3) _ _ hx1) (.inr (.inl ⟨hle,hF,rfl⟩)) (.inl ⟨rfl,g,B,Zd,G1.same (s2.trans s3),S,L,hF,Ext.refl n B⟩)
    ·obtain ⟨r,c,hrn,hcn,he⟩:=hE
     refine ⟨_,rfl,g,n,B,r,c,rfl,(G1.same s2).grid,S,hn,hrn,hcn,he,s2 _ _ hT1,fun pf H3 ch s3 fc cf=>?_⟩
     obtain ⟨k,mL,_,f1,f2,f3⟩:=cf
     have hnF:¬ Y6 n B:=fun z=>z r c hrn hcn he
     have on:∀ rr,runR (goR n far m) B ch ch.xs (cnt+1) rr->goR n far (m+1) B cnt rr:=fun rr z=>.inr (.inr ⟨hle,hnF,ch,fc,z⟩)
     refine ⟨_,rfl,pf,_,(0:Int),.ref k,rfl,rfl,SqT.of f1,rfl,Nat.zero_le _,fun l hl=>?_⟩
     have s13:=s2.trans s3
     have hx3:=s13 _ _ hx1
     have hlx:l≠x:=fun z=>by rw [z,hx3] at hl; cases hl
     have st03:Stay x H H3:=st1.trans (Stay.of s13)
     have hl0:H l=none:=st03.free hlx hl
     have s4:Same H3 (upd H3 l (.lst [])):=Same.new hl
     refine ⟨_,rfl,pf,_,(1:Int),.ref mL,rfl,rfl,SqT.of (s4 _ _ f1),rfl,mL,rfl,⟨_,SqL.of (s4 _ _ f3)⟩,?_⟩
     have hmem:=fc.mem
     have hml:mL≠l:=Zm f3 hl
     have hmx:mL≠x:=Yi f3 hx3 (by intro z; cases z)
     refine Zai (xs:=ZP ch.xs) (fun j σ H4=>∃ (v5 v6:Option V) (ps:List Addr) (cnt':Int),σ=[some (.ref g),some (.ref x),some (.ref pf),some (.ref k),some (.ref l),v5,v6]/\Stay x H H4/\H4 x=some (lkO cL dx far cnt')/\H4 k=some (.tup [.str ch.nm,.int (ch.a:Int),.int (ch.b:Int)])/\H4 mL=some (.lst (ZP ch.xs))/\H4 l=some (.lst (ps.map V.ref)) /\
       Paired (fun p (t:Nat)=>∃ b',H4 p=some (.tup [.int (t:Int),.ref b'])/\BookAt (fun z=>H z=none/\z≠l) n H4 m (Zae B ch t) b') ps (ch.xs.take j)/\∀ rr,runR (goR n far m) B ch (ch.xs.drop j) cnt' rr->runR (goR n far m) B ch ch.xs (cnt+1) rr)
      ⟨none,none,[],cnt+1,rfl,st03.trans (Stay.of s4),s4 _ _ hx3,s4 _ _ f2,s4 _ _ f3,Zd,.nil,fun rr z=>z⟩ (fun j σ H4 _ zz0=> by obtain ⟨_,_,_,_,_,_,_,_,z,_⟩ := zz0; exact SqL.of z) ?_ ?_
     ·rintro j y σ H4 hj ⟨v5,v6,ps,cnt',rfl,st4,hx4,hk4,hm4,hl4,hP4,hrun⟩
      have hj':∃ t,ch.xs[j]? = some t/\y = .int (t:Int):=by
       unfold ZP at hj
       rw [List.getElem?_map] at hj
       cases e:ch.xs[j]? with
       | none=>rw [e] at hj; cases hj
       | some t=>rw [e] at hj; cases hj; exact ⟨t,rfl,rfl⟩
      obtain ⟨t,ht,rfl⟩:=hj'
      have htm:t∈ch.xs:=List.mem_of_getElem? ht
      have hdr:ch.xs.drop j=t::ch.xs.drop (j+1):=by
       obtain ⟨hj1,hj2⟩:=List.getElem?_eq_some_iff.mp ht
       rw [List.drop_eq_getElem_cons hj1,hj2]
      rw [hdr] at hrun
      have ko:=YV hmem htm
      refine ⟨_,rfl,_,rfl,_,rfl,g,k,n,B,ch.nm,ch.a,ch.b,t,rfl,st4.grid hx ZhX GB,S,hn,hk4,ko.r,ko.c,fun p1 H5 s5 Gp=>?_⟩
      have hx5:=s5 _ _ hx4
      have st5:Stay x H H5:=st4.trans (Stay.of s5)
      refine ⟨_,rfl,p1,x,dx,far,cnt',n,Zae B ch t,rfl,Gp,ko.sq S,ko.lat S L,hn,by have:=ko.emp S; unfold Zae; omega,hx5,st5 _ _ hTx hTb,fun pt H6 cnt6 b6 st6 hx6 go6 told6=>?_,fun d H6 st6 hd6 go6=>qE d H6 (st5.trans st6) hd6 (on _ (hrun _ (.inl ⟨go6,rfl⟩)))⟩
      have st06:=st5.trans st6
      have ktup:∀ {a xs},H5 a=some (.tup xs)->H6 a=some (.tup xs):=fun {a xs} z=>st6 _ _ (Yi z hx5 (by intro y; cases y)) z
      rcases told6 with ⟨rfl,qg,C,hpt,Gq,SC,LC,FC,EC⟩ | ⟨rfl,b,hpt,hbk⟩
      ·refine ⟨_,rfl,pt,_,(0:Int),.str "closed",rfl,rfl,SqT.of hpt,rfl,rfl,_,rfl,YD (fun _=>?_) (fun hc=>absurd (decide_eq_true rfl) hc)⟩
       exact ⟨_,rfl,q pt H6 cnt6 true st06 hx6 (on _ (hrun _ (.inr (.inl ⟨cnt6,go6,rfl⟩)))) (.inl ⟨rfl,qg,C,hpt,Gq,SC,LC,FC,ko.back S EC⟩)⟩
      ·refine ⟨_,rfl,pt,_,(0:Int),.str "cases",rfl,rfl,SqT.of hpt,rfl,rfl,_,rfl,YD (fun hc=>absurd (of_decide_eq_true hc) (by intro z; injection z with z; exact absurd z (by decide))) (fun _=>?_)⟩
       have hl5:=s5 _ _ hl4
       have hl6:=st6 _ _ hlx hl5
       refine ⟨_,rfl,.inl ⟨rfl,_,SqL.of hl6⟩,_,rfl,_,rfl,pt,_,(1:Int),.ref b,rfl,rfl,SqT.of hpt,rfl,t2,fun p2 hp2=>?_⟩
       have s7:Same H6 (upd H6 p2 (.tup [.int (t:Int),.ref b])):=Same.new hp2
       have hl7:=s7 _ _ hl6
       have hp2l:p2≠l:=fun z=>by rw [z,hl6] at hp2; cases hp2
       have hls:ps.length<=6:=by
        have h1:=hP4.length
        rw [List.length_take] at h1
        have h2:ch.xs.length<=6:=by
         have:=(ZkY hmem).2.2
         have hb:ch.xs.length<=n:=by
          have lin:∀ {nm:Str} {L Cr:List (List V)},ch∈ZX nm n L Cr n->ch.xs.length<=n:=fun {nm L Cr} h=>by
           obtain ⟨r,hr,hm⟩:=List.mem_flatMap.mp h
           obtain ⟨t,ht,rfl⟩:=List.mem_map.mp hm
           exact ZW _ _
          rcases List.mem_append.mp hmem with h | h
          ·rcases List.mem_append.mp h with h | h
           ·obtain ⟨r,hr,hm⟩:=List.mem_flatMap.mp h
            obtain ⟨t,ht,rfl⟩:=List.mem_map.mp hm
            exact ZW _ _
           ·exact lin h
          ·exact lin h
         exact Om.b3 ‹_› ‹_› rfl
        omega
       refine ⟨l,_,_,rfl,rfl,hl7,by rw [List.length_map]; exact ZD (by exact Om.b1 ‹_› rfl),?_⟩
       have up:∀ {a u},a≠l->H6 a=some u->(upd (upd H6 p2 (.tup [.int (t:Int),.ref b])) l (.lst (ps.map V.ref++[.ref p2]))) a=some u:=fun {a u} na z=>by rw [Zh na]; exact s7 _ _ z
       have upT:∀ {a xs},H6 a=some (.tup xs)->(upd (upd H6 p2 (.tup [.int (t:Int),.ref b])) l (.lst (ps.map V.ref++[.ref p2]))) a=some (.tup xs):=fun {a xs} z=>up (Yi z hl6 (by intro y; cases y)) z
       have k46:∀ a xs,H4 a=some (.tup xs)->H6 a=some (.tup xs):=fun a xs z=>ktup (s5 _ _ z)
       refine ⟨_,_,ps++[p2],cnt6,rfl,?_,up (Ne.symm hlx) hx6,upT (k46 _ _ hk4),up hml (st6 _ _ hmx (s5 _ _ hm4)),by rw [Zd,List.map_append]; rfl,?_,fun rr z=>hrun rr (.inr (.inr ⟨cnt6,go6,z⟩))⟩
       ·intro a u na z
        have na2:a≠l:=Zm z hl0
        exact up na2 (st06 a u na z)
       ·rw [List.take_add_one,ht]
        refine Paired.snoc (Paired.mapP hP4 fun p t' zz0=> by obtain ⟨b',e1,e2⟩ := zz0; exact ⟨b',upT (k46 _ _ e1),BookAt.mono (fun a xs z=>upT (k46 a xs z)) (fun a xs za z=>up za.2 (st6 _ _ (fun y=>by rw [y] at za; rw [hx] at za; cases za.1) (s5 _ _ z))) (fun a u za _=>za) m e2⟩) ⟨b,by rw [Zh hp2l]; exact Zd,BookAt.mono (fun a xs z=>upT z) (fun a xs za z=>up (fun y=>by rw [y,hl5] at za; cases za) z) (fun a u za _=>⟨st5.free (fun y=>by rw [y,hx5] at za; cases za) za,fun y=>by rw [y,hl5] at za; cases za⟩) m hbk⟩
     ·rintro σ H4 ⟨v5,v6,ps,cnt',rfl,st4,hx4,hk4,hm4,hl4,hP4,hrun⟩
      rw [List.take_of_length_le (by unfold ZP; rw [List.length_map]; exact Nat.le_refl _)] at hP4
      refine ⟨_,rfl,_,rfl,t2,fun b hb=>⟨t2,fun p hp=>?_⟩⟩
      have s5:Same H4 (upd H4 b (.tup [.ref k,.ref l])):=Same.new hb
      have s6:Same (upd H4 b (.tup [.ref k,.ref l])) (upd (upd H4 b (.tup [.ref k,.ref l])) p (.tup [.str "cases",.ref b])):=Same.new hp
      have s46:=s5.trans s6
      have hend:=on _ (hrun (some (false,cnt')) (by rw [List.drop_eq_nil_of_le (by unfold ZP; rw [List.length_map]; exact Nat.le_refl _)]; exact rfl))
      refine q p _ cnt' false (st4.trans (Stay.of s46)) (s46 _ _ hx4) hend (.inr ⟨rfl,b,Zd,ch,k,l,ps,fc,hl0,s6 _ _ Zd,s46 _ _ hk4,s46 _ _ hl4,?_⟩)
      exact Paired.mapP hP4 fun p' t ⟨b',e1,e2⟩=>⟨b',s46 _ _ e1,BookAt.mono (fun a xs z=>s46 _ _ z) (fun a xs _ z=>s46 _ _ z) (fun a u za _=>za.1) m e2⟩
end
end My
namespace L2
open PySem PySem.Spec PyProof.Rows
structure FunD (K:PySem.W.Frag) (x qual:Str) (st:Stmt) (f:Addr) (fd:FuncData) (dV:Value):Prop where
 ex:∃ (oc:Value) (od:Option Addr) (kV doc pm:Value) (an:Option Addr) (cdv ct:Value) (osl:Array (Option Value)),
  fd=PySem.W.fnOf x qual (Zr st) (Zo st) (Zf st) dV kV doc pm an cdv ct/\K.lookup f=some ⟨oc,od,.func fd,osl⟩/\PySem.W.codeIn K cdv qual=true
 kp:PySem.W.keepIn K (.ref f)=true
theorem ZdI {K:PySem.W.Frag} {x qual:Str} {st:Stmt} {f:Addr} {oc dV:Value} {od an:Option Addr} {osl:Array (Option Value)} {kV doc pm cdv ct:Value} (l:K.lookup f=some ⟨oc,od,.func (PySem.W.fnOf x qual (Zr st) (Zo st) (Zf st) dV kV doc pm an cdv ct),osl⟩)
  (c:PySem.W.codeIn K cdv qual=true) (k:PySem.W.keepIn K (.ref f)=true):FunD K x qual st f (PySem.W.fnOf x qual (Zr st) (Zo st) (Zf st) dV kV doc pm an cdv ct) dV:=⟨⟨oc,od,kV,doc,pm,an,cdv,ct,osl,rfl,l,c⟩,k⟩
theorem FunD.okX2 {P:Program} {w:World} {K:PySem.W.Frag} {mg:Str->Option Value} {base:Heap} {x qual:Str} {st:Stmt} {f:Addr} {fd:FuncData} {dV:Value} {N ps:List Str} {k:Nat} {sp:Sp} (F:FunD K x qual st f fd dV) (S:Zt N ps (Zf st)) (len:∀ vs H Q E,sp vs H Q E->vs.length=ps.length)
  (hbody:∀ (cdv:Value) (A:Around) (outer:List Env) (s:Shared) (H:Hp) (vs:List V) (Q:VK) (E:XK),Room k (A.deeper (envOfC qual (Zf st) s.heap.objs.size f cdv))->sp vs H Q E ->
   ∃ t,PSs (Z9 (CX2 P w) P w K mg base N qual (Zf st) f cdv A outer s H E) (Zo st) t/\t { nx:=fun _ H'=>Q .non H',rt:=Q } (start N vs) H):FnOk P w K mg base (CX2 P w) (k+1) f fd ps sp:=by
 obtain ⟨oc,od,kV,doc,pm,an,cdv,ct,osl,rfl,lk,hcd⟩:=F.ex
 exact ZfV lk hcd S len fun A outer s H vs Q E hr hsp=>hbody cdv A outer s H vs Q E hr hsp
theorem PH.two {X:Cx} {hs:List ExceptHandler} {t:Value->TS} (h:PH X hs t):PH2 X hs (fun cls _=>t cls):=fun pins s0 s σ H0 H' e cls a0 _ B D I0 fl _ q=>h pins s0 s σ H0 H' e cls a0 B D I0 fl q
end L2
namespace My
open PySem L2
inductive Zdi (Tb cM:Addr) (vs:List V) (H:Hp) (Q:VK) (E:XK):Prop where
 | mk (g:Addr) (far:Int) (n:Nat) (B:List (List V)) (_:vs=[.ref g,.int far]) (_:GridT H g B) (_:Sq n B) (_:Lat n B) (_:n<=6) (_:H Tb=some (Zat Zcy)) (_:(∀ p H' c' b0,Same H H'->goR n far 37 B 0 (some (b0,c'))->Told b0 (fun l=>H l=none) n B H' 37 p->Q (.ref p) H')) (_:∀ d H',Same H H'->H' d=some (.xd [("most",.int far)])->goR n far 37 B 0 none->E (.ref cM) (some d) H'):Zdi Tb cM vs H Q E
noncomputable def ZbX (Tb cM:Addr):Sp:=fun vs H Q E=>Zdi Tb cM vs H Q E
theorem ZdL {n:Nat} {B:List (List V)} (hn:n<=6):emp n B<37:=by
 unfold emp YL
 have h1:((List.range (n*n)).filter fun k=>decide (at2 B (k / n) (k % n) = .non)).length<=n*n:=Nat.le_trans (List.length_filter_le _ _) (by simp)
 have h2:n*n<=36:=Nat.mul_le_mul hn hn
 omega
section
variable {P:Program} {w:World} {K:PySem.W.Frag} {mg:Str->Option Value} {base:Heap}
variable {cM fM cL fI fK fW fF fC fG Tb:Addr} {dM dI dK dW dF dC dG:FuncData}
theorem Zhp:Zt ["begun","most"] ["begun","most"] (Zf JJ):=⟨rfl,rfl,rfl,by decide +kernel,rfl,by decide +kernel,by decide +kernel⟩
theorem ZcS {f:Addr} {fd:FuncData} {dV:Value} (F:FunD K "closed" "closed" JJ f fd dV) (Z:GoD P w K mg base Tb cM fM cL fI fK fW fF fC dM dI dK dW dF dC) (D:Dfn K mg "gone_through" Zbo ["begun","looks"] fG dG):FnOk P w K mg base (CX2 P w) 44 f fd ["begun","most"] (ZbX Tb cM):=by
 have G:FnOk P w K mg base (CX2 P w) 43 fG dG ["begun","looks"] (Zhi Tb cL cM 37):=ZfM Z D 37
 have X:=Z.X
 have GI:FnOk P w K mg base CX0 42 fI dI ["self","most"] (Zhg cL):=(ZiU X).mono (by decide)
 refine F.okX2 Zhp (fun vs H Q E h=>?_) (fun cdv A outer s H vs Q E hr h=>?_)
 ·obtain ⟨_,_,_,_,rfl,_⟩:=h
  rfl
 ·obtain ⟨g,far,n,B,rfl,GB,S,L,hn,hTb,q,qE⟩:=h
  refine ⟨_,Zg (Zv (Zk G hr rfl D.m D.F.kp D.b .nil Zfb (Za (pv 0) (Za (ZiO X.mak GI hr rfl X.mL X.bI .nil ZA (Za (pv 1) Zc)) Zc)))),?_⟩
  refine ⟨_,rfl,_,rfl,fun x dx hx hdx hne=>⟨x,dx,far,rfl,Zd,rfl,?_⟩⟩
  have sm:Same H (upd (upd (upd (upd H dx (.own x)) x (.ins cL dx [])) x (.ins cL dx [("most",.int far)])) x (lkO cL dx far 0)):=fun b u z=>by
   have b1:b≠x:=Zm z hx
   have b2:b≠dx:=Zm z hdx
   rw [Zh b1,Zh b1,Zh b1,Zh b2]
   exact z
  have back:∀ {H'},Stay x (upd (upd (upd (upd H dx (.own x)) x (.ins cL dx [])) x (.ins cL dx [("most",.int far)])) x (lkO cL dx far 0)) H'->Same H H':=fun {H'} st b u z=>st b u (Zm z hx) (sm b u z)
  refine ⟨g,x,dx,far,0,n,B,rfl,GB.same sm,S,L,hn,ZdL hn,Zd,sm _ _ hTb,fun p H' cnt' b0 st _ go told=>q p H' cnt' b0 (back st) go ?_,fun d H' st hd go=>qE d H' (back st) hd go⟩
  rcases told with z | ⟨e0,b,h1,h2⟩
  ·exact .inl z
  ·exact .inr ⟨e0,b,h1,BookAt.mono (fun a xs z=>z) (fun a xs _ z=>z) (fun a u za _=>sm.free za) 37 h2⟩
end
end My
namespace My
open PySem L2
noncomputable def Zkn (n:Nat) (B:List (List V)):Prop:=∃ r c,r<n/\c<n/\at2 B r c = .non
theorem Zjb (n:Nat) (B:List (List V)):Y6 n B\/Zkn n B:=by
 by_cases h:Zkn n B
 ·exact .inr h
 ·exact .inl fun r c hr hc z=>h ⟨r,c,hr,hc,z⟩
noncomputable def JY (b:Bool):Str:=if b=true then "closed" else "cases"
inductive Zex (m:Nat) (vs:List V) (H:Hp) (Q:VK):Prop where
 | mk (g lk:Addr) (far n:Nat) (B:List (List V)) (xs:List V) (_:vs=[.ref g,.int (far:Int),.ref lk]) (_:GridT H g B) (_:Sq n B) (_:n<=6) (_:emp n B<m) (_:H lk=some (.lst xs)) (_:xs.length<=far) (_:far<=1000) (_:(∀ H',Stay lk H H'->goR n (far:Int) m B (xs.length:Int) none->Q .non H')) (_:∀ p v H' ys b0,Stay lk H H'->H' lk=some (.lst ys)->ys.length<=far->goR n (far:Int) m B (xs.length:Int) (some (b0,(ys.length:Int)))->H' p=some (.tup [.str (JY b0),v])->Q (.ref p) H'):Zex m vs H Q
noncomputable def Zdn (m:Nat):Sp:=fun vs H Q _=>Zex m vs H Q
section
variable {P:Program} {w:World} {K:PySem.W.Frag} {mg:Str->Option Value} {base:Heap}
variable {fF fW:Addr} {dF dW:FuncData}
theorem scGoneL:Zt ["_law_begun_here","_law_most","_law_looked","_law_choice","_law_some","_law_cases","_law_number","_law_found"] ["_law_begun_here","_law_most","_law_looked"] (Zf JI):=⟨rfl,rfl,rfl,by decide +kernel,rfl,by decide +kernel,by decide +kernel⟩
set_option maxHeartbeats 1600000 in
theorem Zd7 {f:Addr} {fd:FuncData} (T:Blt mg) (DF:Dfn K mg "_law_first" J8 ["_law_begun_here"] fF dF) (gF:FnOk P w K mg base CX0 3 fF dF ["_law_begun_here"] (ZbU K)) (DW:Dfn K mg "_law_with" Zbn ["_law_begun_here","_law_choice","_law_number"] fW dW)
  (gW:FnOk P w K mg base CX0 2 fW dW ["_law_begun_here","_law_choice","_law_number"] Js) (D:Dfn K mg "_law_gone" JI ["_law_begun_here","_law_most","_law_looked"] f fd):∀ m:Nat,FnOk P w K mg base CX0 (m+4) f fd ["_law_begun_here","_law_most","_law_looked"] (Zdn m)
 | 0=>⟨fun vs H Q E h=>by obtain ⟨_,_,_,_,_,_,rfl,_⟩:=h; rfl,fun A outer s H args us vs Q E _ _ _ _ h=>by
   obtain ⟨_,_,_,_,_,_,_,_,_,_,hz,_⟩:=h
   exact absurd hz (Nat.not_lt_zero _)⟩
 | m+1=>by
  have G:=Zd7 T DF gF DW gW D m
  have GF:FnOk P w K mg base CX0 (m+4) fF dF ["_law_begun_here"] (ZbU K):=gF.mono (by exact Om.k58 )
  have GW:FnOk P w K mg base CX0 (m+4) fW dW ["_law_begun_here","_law_choice","_law_number"] Js:=gW.mono (by exact Om.k57 )
  refine D.F.ok scGoneL (fun vs H Q E h=>?_) (fun cdv A outer s H vs Q E hr h=>?_)
  ·obtain ⟨_,_,_,_,_,_,rfl,_⟩:=h
   rfl
  ·obtain ⟨g,lk,far,n,B,xs,rfl,GB,S,hn,hem,hlk,hxs,hfar,q0,q⟩:=h
   have hu0:((A.deeper (PyProof.Rows.envOfC "_law_gone" (Zf JI) s.heap.objs.size f cdv))).units<cLine:=by have:=hr.un; omega
   refine' ⟨_,Ze ?s0 (Ze (ZZ ?c0 (Zg (Zv JL)) ZE) (Ze (ZZ ?c1 (Zg (Zv ?r1)) ZE) (Ze ?s2 (Ze ?s3 (Ze (Yf PassesOwn.never rfl ?i (ZG (i:=6) scGoneL.nd rfl (Or.inl rfl)) (Ze ?b0 (Ze (ZZ (PW.pt (Zjv ?c2 (Zhx ?c3))) (Zg (Zv (pv 7))) ZE) (Zg ?b2)))) (Zg (Zv ?r2))))))),?rd⟩
   case s0=>exact Ys (JC PySem.F.plainAttrs_list PySem.F.slot_list_append PySem.F.type_list_append Z5 (pv 2) (Za ZcQ Zc))
   case c0=>exact Zx Zb4 (Zw (Zu K) rfl T.len PySem.boot_len (Za (pv 2) Zc)) (pv 1) (ZN _)
   case c1=>exact Zx (ZhJ hu0 K) (Y7 ["_law_row"] [none] rfl rfl (Zaq K (pv 0)) (fun _ _ _ _ _=>Jo 0) (fun _ _ _ _ _=>YG (Zx (ZdA K) JL (pv 0) rfl)) (fun _ _ _ _ _=>pv 0)) (Yv Zc) (ZN _)
   case r1=>exact ZH (Za Z0 (Za (pv 0) Zc))
   case s2=>exact Zhy (Zk GF hr rfl DF.m DF.F.kp DF.b .nil ZA (Za (pv 0) Zc)) (Zdu (n:=2) K rfl (Y2 (ZG (i:=3) scGoneL.nd rfl (Or.inl rfl)) (Y2 (ZG (i:=4) scGoneL.nd rfl (Or.inl rfl)) ZbH)))
   case s3=>exact Zq (i:=5) scGoneL.nd rfl (Or.inl rfl) (Yv Zc)
   case i=>exact Jn K (pv 4)
   case b0=>exact Zq (i:=7) scGoneL.nd rfl (Or.inl rfl) (Zk G hr rfl D.m D.F.kp D.b .nil ZA (Za (Zk GW hr rfl DW.m DW.F.kp DW.b .nil ZA (Za (pv 0) (Za (pv 3) (Za (pv 6) Zc)))) (Za (pv 1) (Za (pv 2) Zc))))
   case c2=>exact Jm (Zaf (pv 7))
   case c3=>exact Zx JD (Zz (ZT K) (pv 7) Zi (fun _ _=>rfl)) Z0 (ZN _)
   case b2=>exact Ys (JC PySem.F.plainAttrs_list PySem.F.slot_list_append PySem.F.type_list_append Z5 (pv 5) (Za (ZH (Za (pv 6) (Za (Zz (ZT K) (pv 7) Zi (fun _ _=>rfl)) Zc))) Zc))
   case r2=>exact ZH (Za Z0 (Za (ZH (Za (pv 3) (Za (pv 5) Zc))) Zc))
   case rd =>
    have t2:2<=sizeLine:=Zs (by decide)
    obtain ⟨gs,hg,hP⟩:=id GB
    have hxl:(gs.map V.ref).length=n:=by rw [List.length_map,hP.length,S.len]
    have hlx:∀ {H':Hp} {ys:List V},H' lk=some (.lst ys)->∀ {a zs},H' a=some (.tup zs)->a≠lk:=fun {H' ys} hl {a zs} z=>Yi z hl (by intro y; cases y)
    refine ⟨_,rfl,.inl ⟨rfl,_,SqL.of hlk⟩,lk,_,_,rfl,rfl,hlk,(by rw [sizeLine_eq]; exact Om.k56 hxs hfar),?_⟩
    have st1:Stay lk H (upd H lk (.lst (xs++[.bl true]))):=(Stay.refl lk H).put
    have hlk1:(upd H lk (.lst (xs++[.bl true]))) lk=some (.lst (xs++[.bl true])):=Zd
    have hl1:(xs++[V.bl true]).length=xs.length+1:=by simp
    generalize upd H lk (.lst (xs++[.bl true]))=H1 at st1 hlk1
    have G1:GridT H1 g B:=⟨gs,st1 _ _ (hlx hlk hg) hg,Paired.mapP hP fun a row z=>st1 _ _ (hlx hlk z) z⟩
    refine ⟨_,rfl,lk,_,rfl,.inl (SqL.of hlk1),_,rfl,_,_,rfl,rfl,_,rfl,?_⟩
    rw [hl1]
    by_cases hgt:(far:Int)<((xs.length+1:Nat):Int)
    ·rw [decide_eq_true hgt]
     exact Y5 (q0 _ st1 (.inl ⟨by exact Om.k55 hxs hl1 hgt,rfl⟩))
    rw [decide_eq_false hgt]
    have hle:(xs.length:Int)+1<=(far:Int):=by exact Om.k54 hl1 hgt
    refine Yx ?_
    obtain ⟨gs,hg,hP⟩:=id G1
    have hxl:(gs.map V.ref).length=n:=by rw [List.length_map,hP.length,S.len]
    refine ⟨_,rfl,g,rfl,⟨_,SqT.of hg⟩,fun la hla=>ZO (fun i=>if inV .non (Zj B i)=true then some (.ref (gs.getD i 0)) else none) (fun σ=>∃ v,σ=[v]) Zan (by rw [hxl]; exact Zs (by exact Om.b1 ‹_› rfl)) hla (fun H' sm=>SqT.of (sm _ _ hg)) ⟨none,rfl⟩ ?_ ?_⟩
    ·rintro j x σ H' R' hj ⟨v,rfl⟩ sm' kk
     rw [List.getElem?_map] at hj
     cases ep:gs[j]? with
     | none=>rw [ep] at hj; cases hj
     | some p =>
      rw [ep] at hj
      cases hj
      have hjn:j<n:=by rw [<- hxl,List.length_map]; exact (List.getElem?_eq_some_iff.mp ep).1
      obtain ⟨row,hb,hrow⟩:=Paired.getL hP ep
      have er:Zj B j=row:=by unfold Zj; rw [hb]; rfl
      have epd:gs.getD j 0=p:=by rw [List.getD_eq_getElem?_getD,ep]; rfl
      refine ⟨_,rfl,p,_,rfl,.inr (SqT.of (sm' _ _ hrow)),rfl,by rw [<- er]; exact Jq S hjn,_,rfl,?_⟩
      have kk':=fun v'=>kk [v'] H' ⟨v',rfl⟩ (Same.refl _)
      rw [er,epd] at kk'
      show if inV .non row=true then _ else _
      refine YD (fun hc=>?_) (fun hc=>?_)
      ·rw [if_pos hc] at kk'
       exact ⟨_,rfl,kk' _⟩
      ·rw [if_neg hc] at kk'
       exact kk' _
    intro H3 s3 hla3
    refine ⟨Nat.zero_le _,fun le hle0=>?_⟩
    have s4:Same H3 (upd H3 le (.lst [])):=Same.new hle0
    rcases Zjb n B with hF | ⟨r,c,hrn,hcn,he⟩
    ·have he:((List.range (gs.map V.ref).length).filterMap fun i=>if inV .non (Zj B i)=true then some (V.ref (gs.getD i 0)) else none)=[]:=List.filterMap_eq_nil_iff.mpr fun j hj=>by
      have hjn:j<n:=by rw [<- hxl]; exact List.mem_range.mp hj
      rw [if_neg]
      intro z
      obtain ⟨c,hc,e⟩:=(ZbN S hjn).mp z
      exact hF j c hjn hc e
     rw [he] at hla3
     refine ⟨la,le,[],[],rfl,rfl,SqL.of (s4 _ _ hla3),SqL.of Zd,.inl ⟨rfl,rfl⟩,_,rfl,Y5 ⟨_,rfl,t2,fun p hp=>?_⟩⟩
     have s5:Same _ (upd (upd H3 le (.lst [])) p (.tup [.str "closed",.ref g])):=Same.new hp
     have s35:=s3.trans (s4.trans s5)
     refine q p (.ref g) _ (xs++[.bl true]) true (st1.trans (Stay.of s35)) (s35 _ _ hlk1) (by exact Om.k53 hl1 hgt) (.inr (.inl ⟨hle,hF,?_⟩)) Zd
     rw [hl1]
     rfl
    have hne:((List.range (gs.map V.ref).length).filterMap fun i=>if inV .non (Zj B i)=true then some (V.ref (gs.getD i 0)) else none)≠[]:=fun z=>by
     have h0:=List.filterMap_eq_nil_iff.mp z r (List.mem_range.mpr (by rw [hxl]; exact hrn))
     rw [if_pos ((ZbN S hrn).mpr ⟨c,hcn,he⟩)] at h0
     cases h0
    refine ⟨la,le,_,[],rfl,rfl,SqL.of (s4 _ _ hla3),SqL.of Zd,.inr (fun z=>hne (List.eq_nil_of_length_eq_zero z)),_,rfl,?_⟩
    have ef:Jx ((List.range (gs.map V.ref).length).filterMap fun i=>if inV .non (Zj B i)=true then some (V.ref (gs.getD i 0)) else none) []=false:=by
     unfold Jx
     rw [decide_eq_false (fun z:_=([]:List V).length=>hne (List.eq_nil_of_length_eq_zero z)),Bool.false_and]
    show if Jx _ []=true then _ else _
    rw [ef]
    refine Yx ?_
    have s34:=s3.trans s4
    refine ⟨_,rfl,g,n,B,r,c,rfl,G1.same s34,S,hn,hrn,hcn,he,fun pf H5 ch s5 fc cf=>?_⟩
    obtain ⟨k,mL,hmN,f1,f2,f3⟩:=cf
    have hnF:¬ Y6 n B:=fun z=>z r c hrn hcn he
    have on:∀ rr,runR (goR n (far:Int) m) B ch ch.xs ((xs.length:Int)+1) rr->goR n (far:Int) (m+1) B (xs.length:Int) rr:=fun rr z=>.inr (.inr ⟨hle,hnF,ch,fc,z⟩)
    refine ⟨pf,_,rfl,SqT.of f1,rfl,_,_,rfl,_,_,rfl,rfl,Nat.zero_le _,fun l hl=>?_⟩
    have s6:Same H5 (upd H5 l (.lst [])):=Same.new hl
    have s15:=s34.trans s5
    have hlk5:=s15 _ _ hlk1
    have hllk:l≠lk:=fun z=>by rw [z,hlk5] at hl; cases hl
    have st05:Stay lk H H5:=st1.trans (Stay.of s15)
    have hl0:H l=none:=st05.free hllk hl
    have hml:mL≠l:=Zm f3 hl
    have hmlk:mL≠lk:=fun z=>by
     have:=s34 _ _ hlk1
     rw [<- z,hmN] at this
     cases this
    refine ⟨_,rfl,mL,rfl,⟨_,SqL.of (s6 _ _ f3)⟩,?_⟩
    have hmem:=fc.mem
    have hxs6:ch.xs.length<=6:=by
     have hb:ch.xs.length<=n:=by
      have lin:∀ {nm:Str} {L Cr:List (List V)},ch∈ZX nm n L Cr n->ch.xs.length<=n:=fun {nm L Cr} h=>by
       obtain ⟨r,hr,hm⟩:=List.mem_flatMap.mp h
       obtain ⟨t,ht,rfl⟩:=List.mem_map.mp hm
       exact ZW _ _
      rcases List.mem_append.mp hmem with h | h
      ·rcases List.mem_append.mp h with h | h
       ·obtain ⟨r,hr,hm⟩:=List.mem_flatMap.mp h
        obtain ⟨t,ht,rfl⟩:=List.mem_map.mp hm
        exact ZW _ _
       ·exact lin h
      ·exact lin h
     exact Om.b3 ‹_› ‹_› rfl
    refine Zai (xs:=ZP ch.xs) (fun j σ H4=>∃ (v6 v7:Option V) (ws ys:List V),σ=[some (.ref g),some (.int (far:Int)),some (.ref lk),some (.ref k),some (.ref mL),some (.ref l),v6,v7]/\Stay lk H H4/\H4 lk=some (.lst ys)/\ys.length<=far/\H4 k=some (.tup [.str ch.nm,.int (ch.a:Int),.int (ch.b:Int)])/\H4 mL=some (.lst (ZP ch.xs))/\H4 l=some (.lst ws)/\ws.length=j /\
      ∀ rr,runR (goR n (far:Int) m) B ch (ch.xs.drop j) (ys.length:Int) rr->runR (goR n (far:Int) m) B ch ch.xs ((xs.length:Int)+1) rr)
     ⟨none,none,[],_,rfl,st05.trans (Stay.of s6),s6 _ _ hlk5,(by rw [hl1]; exact Om.k52 hl1 hgt),s6 _ _ f2,s6 _ _ f3,Zd,rfl,fun rr z=>by rw [hl1] at z; exact z⟩ (fun j σ H4 _ zz0=> by obtain ⟨_,_,_,_,_,_,_,_,_,z,_⟩ := zz0; exact SqL.of z) ?_ ?_
    ·rintro j y σ H4 hj ⟨v6,v7,ws,ys,rfl,st4,hlk4,hys,hk4,hm4,hl4,hws,hrun⟩
     have hj':∃ t,ch.xs[j]? = some t/\y = .int (t:Int):=by
      unfold ZP at hj
      rw [List.getElem?_map] at hj
      cases e:ch.xs[j]? with
      | none=>rw [e] at hj; cases hj
      | some t=>rw [e] at hj; cases hj; exact ⟨t,rfl,rfl⟩
     obtain ⟨t,ht,rfl⟩:=hj'
     have htm:t∈ch.xs:=List.mem_of_getElem? ht
     have hj6:j<6:=Nat.lt_of_lt_of_le (List.getElem?_eq_some_iff.mp ht).1 hxs6
     have hdr:ch.xs.drop j=t::ch.xs.drop (j+1):=by
      obtain ⟨hj1,hj2⟩:=List.getElem?_eq_some_iff.mp ht
      rw [List.drop_eq_getElem_cons hj1,hj2]
     rw [hdr] at hrun
     have ko:=YV hmem htm
     have G4:GridT H4 g B:=st4.grid hlk (fun xs z=>by cases z) GB
     refine ⟨_,rfl,_,rfl,_,rfl,g,k,n,B,ch.nm,ch.a,ch.b,t,rfl,G4,S,hn,hk4,ko.r,ko.c,fun p1 H5 s5 Gp=>?_⟩
     have hlk5:=s5 _ _ hlk4
     have st5:Stay lk H H5:=st4.trans (Stay.of s5)
     refine ⟨_,rfl,_,rfl,p1,lk,far,n,Zae B ch t,ys,rfl,Gp,ko.sq S,hn,by have:=ko.emp S; unfold Zae; omega,hlk5,hys,hfar,fun H6 st6 go6=>?_,fun p v H6 zs b6 st6 hlk6 hzs go6 hp6=>?_⟩
     ·exact ⟨_,rfl,_,rfl,Y5 ⟨_,rfl,q0 H6 (st5.trans st6) (on _ (hrun _ (.inl ⟨go6,rfl⟩)))⟩⟩
     ·have st06:=st5.trans st6
      refine ⟨_,rfl,_,rfl,Yx ⟨_,rfl,p,_,(0:Int),.str (JY b6),rfl,rfl,SqT.of hp6,rfl,?_⟩⟩
      cases b6 with
      | true=>exact ⟨rfl,_,rfl,Y5 ⟨_,rfl,q p v H6 zs true st06 hlk6 hzs (on _ (hrun _ (.inr (.inl ⟨_,go6,rfl⟩)))) hp6⟩⟩
      | false =>
       refine ⟨rfl,_,rfl,Yx ?_⟩
       have hl5:=s5 _ _ hl4
       have hl6:=st6 _ _ hllk hl5
       refine ⟨_,rfl,.inl ⟨rfl,_,SqL.of hl6⟩,_,rfl,_,rfl,p,_,(1:Int),v,rfl,rfl,SqT.of hp6,rfl,t2,fun p2 hp2=>?_⟩
       have s7:Same H6 (upd H6 p2 (.tup [.int (t:Int),v])):=Same.new hp2
       have hl7:=s7 _ _ hl6
       refine ⟨l,_,_,rfl,rfl,hl7,ZD (by exact Om.k51 hws hj6),?_⟩
       have up:∀ {a u},a≠l->H6 a=some u->(upd (upd H6 p2 (.tup [.int (t:Int),v])) l (.lst (ws++[.ref p2]))) a=some u:=fun {a u} na z=>by rw [Zh na]; exact s7 _ _ z
       have kt:∀ {a zs'},H4 a=some (.tup zs')->H6 a=some (.tup zs'):=fun {a zs'} z=>st6 _ _ (hlx hlk5 (s5 _ _ z)) (s5 _ _ z)
       refine ⟨_,_,ws++[.ref p2],zs,rfl,fun a u na z=>up (Zm z hl0) (st06 a u na z),up (Ne.symm hllk) hlk6,hzs,up (Yi (kt hk4) hl6 (by intro y; cases y)) (kt hk4),up hml (st6 _ _ hmlk (s5 _ _ hm4)),Zd,by rw [List.length_append,hws]; rfl,fun rr z=>hrun rr (.inr (.inr ⟨_,go6,z⟩))⟩
    ·rintro σ H4 ⟨v6,v7,ws,ys,rfl,st4,hlk4,hys,hk4,hm4,hl4,hws,hrun⟩
     refine ⟨_,rfl,_,rfl,t2,fun b hb=>⟨t2,fun p hp=>?_⟩⟩
     have s5:Same H4 (upd H4 b (.tup [.ref k,.ref l])):=Same.new hb
     have s6:Same (upd H4 b (.tup [.ref k,.ref l])) (upd (upd H4 b (.tup [.ref k,.ref l])) p (.tup [.str "cases",.ref b])):=Same.new hp
     have s46:=s5.trans s6
     have hend:=on _ (hrun (some (false,(ys.length:Int))) (by rw [List.drop_eq_nil_of_le (by unfold ZP; rw [List.length_map]; exact Nat.le_refl _)]; exact rfl))
     exact q p (.ref b) _ ys false (st4.trans (Stay.of s46)) (s46 _ _ hlk4) hys hend Zd
end
end My
namespace My
open PySem L2
noncomputable def ZbE (n:Nat) (B:List (List V)):Prop:=∃ C,Sq n C/\Lat n C/\Y6 n C/\Ext n B C
inductive Zeu (m:Nat) (vs:List V) (H:Hp) (Q:VK):Prop where
 | mk (g:Addr) (n at':Nat) (B:List (List V)) (_:vs=[.ref g,.int (at':Int)]) (_:GridT H g B) (_:Sq n B) (_:Lat n B) (_:1<=n) (_:n<=6) (_:at'<=n*n) (_:n*n - at'<m) (_:(∀ i,i<at'->at2 B (i / n) (i % n) ≠ .non)) (_:∀ (b:Bool) H',Same H H'->(b=true↔ZbE n B)->Q (.bl b) H'):Zeu m vs H Q
noncomputable def Zdm (m:Nat):Sp:=fun vs H Q _=>Zeu m vs H Q
theorem Zc1 {n:Nat} {B:List (List V)} (S:Sq n B) {r c:Nat} (hr:r<n) (hc:c<n) (he:at2 B r c = .non):ZbE n B↔∃ t,t∈Z1 n B r c/\ZbE n (Jr B r c (.int (t:Int))):=by
 have hmem:(⟨"cell",r,c,Z1 n B r c⟩:Ch)∈ZV n B:=List.mem_append_left _ (List.mem_append_left _ (Zb8 hr hc he))
 have e0:∀ t,ZQ "cell" r c t=(r,c,t):=fun t=>by unfold ZQ; rw [if_pos rfl]
 constructor
 ·rintro ⟨C,SC,LC,FC,EC⟩
  obtain ⟨t,ht,e⟩:=ZdN S SC LC FC EC hmem
  have ko:=YV hmem ht
  rw [show (⟨"cell",r,c,Z1 n B r c⟩:Ch).nm = "cell" from rfl,e0] at e ko
  exact ⟨t,ht,C,SC,LC,FC,ko.on S EC e⟩
 ·rintro ⟨t,ht,C,SC,LC,FC,EC⟩
  have ko:=YV hmem ht
  rw [show (⟨"cell",r,c,Z1 n B r c⟩:Ch).nm = "cell" from rfl,e0] at ko
  exact ⟨C,SC,LC,FC,ko.back S EC⟩
section
variable {P:Program} {w:World} {K:PySem.W.Frag} {mg:Str->Option Value} {base:Heap}
variable {fR fP:Addr} {dR dP:FuncData}
theorem scThere:Zt ["_law_begun_here","_law_at","_law_size","_law_thing"] ["_law_begun_here","_law_at"] (Zf J5):=⟨rfl,rfl,rfl,by decide +kernel,rfl,by decide +kernel,by decide +kernel⟩
inductive ZeF (g:Addr) (n:Nat) (B:List (List V)) (H':Hp) (at1:Nat) (lr:Addr) (j:Nat) (σ:St) (H3:Hp):Prop where
 | mk (v3:Option V) (_:σ=[some (.ref g),some (.int (at1:Int)),some (.int (n:Int)),v3]) (_:Same H' H3) (_:H3 lr=some (.lst (ZP (Z1 n B (at1 / n) (at1 % n))))) (_:∀ t,t∈(Z1 n B (at1 / n) (at1 % n)).take j->¬ ZbE n (Jr B (at1 / n) (at1 % n) (.int (t:Int)))):ZeF g n B H' at1 lr j σ H3
set_option maxHeartbeats 1600000 in
theorem Zd5 {f:Addr} {fd:FuncData} (T:Blt mg) (DR:Dfn K mg "_law_room" JR ["_law_begun_here","_law_row","_law_column"] fR dR) (DP:Dfn K mg "_law_put" JA ["_law_begun_here","_law_row","_law_column","_law_thing"] fP dP) (D:Dfn K mg "_law_there_is" J5 ["_law_begun_here","_law_at"] f fd) :
  ∀ m:Nat,FnOk P w K mg base CX0 (m+2) f fd ["_law_begun_here","_law_at"] (Zdm m)
 | 0=>⟨fun vs H Q E h=>by obtain ⟨_,_,_,_,rfl,_⟩:=h; rfl,fun A outer s H args us vs Q E _ _ _ _ h=>by
   obtain ⟨_,_,_,_,_,_,_,_,_,_,_,hz,_⟩:=h
   exact absurd hz (Nat.not_lt_zero _)⟩
 | m+1=>by
  have G:=Zd5 T DR DP D m
  have GR:FnOk P w K mg base CX0 (m+2) fR dR ["_law_begun_here","_law_row","_law_column"] (JZ K):=(ZaP DR.F T).mono (by exact Om.k50 )
  have GP:FnOk P w K mg base CX0 (m+2) fP dP ["_law_begun_here","_law_row","_law_column","_law_thing"] Jw:=(ZaE DP.F T).mono (by exact Om.k50 )
  refine D.F.ok scThere (fun vs H Q E h=>?_) (fun cdv A outer s H vs Q E hr h=>?_)
  ·obtain ⟨_,_,_,_,rfl,_⟩:=h
   rfl
  ·obtain ⟨g,n,at',B,rfl,GB,S,L,h1n,hn,hat,hm,hfill,q⟩:=h
   refine' ⟨_,Ze ?s0 (Ze (Zb2 PassesOwn.never (PW.pt (Zac ?c0 (Ju ?c1))) (Zg ?w0)) (Ze (ZZ ?c2 (Zg (Zv ZcQ)) ZE) (Ze (Yf PassesOwn.never rfl ?i (ZG (i:=3) scThere.nd rfl (Or.inl rfl)) (Zg (ZZ ?c3 (Zg (Zv ZcQ)) ZE))) (Zg (Zv ZcQ))))),?rd⟩
   case s0=>exact Zq (i:=2) scThere.nd rfl (Or.inl rfl) (Zw (Zu K) rfl T.len PySem.boot_len (Za (pv 0) Zc))
   case c0=>exact Zx ZhI (pv 1) (Zl Yo (pv 2) (pv 2)) (ZN _)
   case c1=>exact Jm (ZfI (Zz ZI (Zz ZI (pv 0) (Zl ZS (pv 1) (pv 2)) (fun _ _=>rfl)) (Zl ZM (pv 1) (pv 2)) (fun _ _=>rfl)))
   case w0=>exact Zq (i:=1) scThere.nd rfl (Or.inl rfl) (Zl Yg (pv 1) Zi)
   case c2=>exact Zx JD (pv 1) (Zl Yo (pv 2) (pv 2)) (ZN _)
   case i=>exact ZaN (Zk GR hr rfl DR.m DR.F.kp DR.b .nil ZA (Za (pv 0) (Za (Zl ZS (pv 1) (pv 2)) (Za (Zl ZM (pv 1) (pv 2)) Zc))))
   case c3=>exact Zdt (Zk G hr rfl D.m D.F.kp D.b .nil ZA (Za (Zk GP hr rfl DP.m DP.F.kp DP.b .nil ZA (Za (pv 0) (Za (Zl ZS (pv 1) (pv 2)) (Za (Zl ZM (pv 1) (pv 2)) (Za (pv 3) Zc))))) (Za (Zl Yg (pv 1) Zi) Zc)))
   case rd =>
    obtain ⟨ps,hx,hR⟩:=id GB
    have hxl:(ps.map V.ref).length=n:=by rw [List.length_map,hR.length,S.len]
    have hnn:(n:Int)*(n:Int)=((n*n:Nat):Int):=by rw [Int.natCast_mul]
    have h36:n*n<=36:=Nat.mul_le_mul hn hn
    have mulOk:(-(2 ^ 64:Int)<(n:Int)/\(n:Int)<2 ^ 64):=⟨by exact Om.k3 h1n hn hxl,by exact Om.k2 h1n hn hxl⟩
    have hn0:(0:Int)<(n:Int):=by exact Om.c3 ‹_›
    have hn1:(n:Int)<1073741824:=by exact Om.k4 h1n hn hxl
    refine ⟨_,rfl,g,_,rfl,.inr (SqT.of hx),?_⟩
    rw [hxl]
    refine ⟨fun m1 σ H'=>∃ at1:Nat,σ=[some (.ref g),some (.int (at1:Int)),some (.int (n:Int)),none]/\H'=H/\at1<=n*n/\at'<=at1/\m1=n*n - at1/\∀ i,i<at1->at2 B (i / n) (i % n) ≠ .non,⟨_,at',rfl,rfl,hat,Nat.le_refl _,rfl,hfill⟩,?_⟩
    rintro m1 σ H' ⟨at1,rfl,rfl,hle,hge,rfl,hf1⟩
    have fillNext:∀ {B':List (List V)},(∀ i,i<at1->at2 B' (i / n) (i % n) ≠ .non)->at2 B' (at1 / n) (at1 % n) ≠ .non->∀ i,i<at1+1->at2 B' (i / n) (i % n) ≠ .non:=fun {B'} h1 h2 i hi=>by
     by_cases e:i=at1
     ·rw [e]; exact h2
     ·exact h1 i (by exact Om.k49 hi e)
    refine ⟨_,rfl,_,rfl,_,rfl,_,_,rfl,rfl,.inl mulOk,_,_,rfl,rfl,_,rfl,?_⟩
    by_cases hlt:¬ at1<n*n
    ·have e1:¬ (at1:Int)<(n:Int)*(n:Int):=by rw [hnn]; exact Om.k48 hle hlt
     have e2:V.int (at1:Int)=V.int ((n:Int)*(n:Int)):=by rw [hnn]; congr 1; exact Om.k47 hle hlt
     rw [decide_eq_false e1]
     refine Yx ⟨_,rfl,_,rfl,_,rfl,_,_,rfl,rfl,.inl mulOk,rfl,_,rfl,?_⟩
     rw [decide_eq_true e2]
     refine Y5 (q true _ (Same.refl _) ⟨fun _=>⟨B,S,L,fun r c hr hc=>?_,Ext.refl n B⟩,fun _=>rfl⟩)
     have hlt:r*n+c<at1:=by
      have h5:(r+1)*n<=n*n:=Nat.mul_le_mul_right n hr
      rw [Nat.succ_mul] at h5
      omega
     have hf:=hf1 (r*n+c) hlt
     rw [Nat.mul_comm,Nat.mul_add_div (by exact Om.f5 ‹_›),Nat.div_eq_of_lt hc,Nat.add_zero,Nat.mul_add_mod,Nat.mod_eq_of_lt hc] at hf
     exact hf
    replace hlt:=Decidable.not_not.mp hlt
    obtain ⟨hr1,hc1⟩:=JO hlt
    have e1:(at1:Int)<(n:Int)*(n:Int):=by rw [hnn]; exact Om.c5 ‹_›
    have e2:¬ V.int (at1:Int)=V.int ((n:Int)*(n:Int)):=fun z=>by rw [hnn] at z; injection z with z; exact Om.k46 hlt z
    rw [decide_eq_true e1]
    have ediv:(at1:Int) / (n:Int)=((at1 / n:Nat):Int):=by rw [Int.natCast_ediv]
    have emod:(at1:Int) % (n:Int)=((at1 % n:Nat):Int):=by rw [Int.natCast_emod]
    obtain ⟨pr,hpr,hrow⟩:=Paired.getR hR (S.rowAt hr1).1
    have hpr':(ps.map V.ref)[at1 / n]? = some (.ref pr):=by rw [List.getElem?_map,hpr]; rfl
    refine Y5 ⟨_,rfl,_,rfl,_,rfl,_,_,rfl,rfl,⟨hn0,hn1⟩,g,_,((at1 / n:Nat):Int),.ref pr,rfl,(by show V.int ((at1:Int) / (n:Int))=_; rw [ediv]),SqT.of hx,ZF hpr',_,rfl,_,rfl,_,_,rfl,rfl,hn0,pr,_,((at1 % n:Nat):Int),_,rfl,(by show V.int ((at1:Int) % (n:Int))=_; rw [emod]),SqT.of hrow,ZF (S.entAt hr1 hc1).1,_,rfl,?_⟩
    refine YD (fun hnon=>?_) (fun hnon=>?_)
    ·have hne:at2 B (at1 / n) (at1 % n) ≠ .non:=fun z=>by rw [z] at hnon; simp at hnon
     exact ⟨fun σ' H'=>∃ m',m'<n*n - at1/\∃ at2':Nat,σ'=[some (.ref g),some (.int (at2':Int)),some (.int (n:Int)),none]/\H'=_/\at2'<=n*n/\at'<=at2'/\m'=n*n - at2'/\∀ i,i<at2'->at2 B (i / n) (i % n) ≠ .non,fun _ _ z=>z,_,rfl,_,_,rfl,rfl,n*n - (at1+1),by exact Om.k45 hlt,at1+1,rfl,rfl,by exact Om.f1 ‹_›,by exact Om.k44 hge,rfl,fillNext hf1 hne⟩
    have hen:at2 B (at1 / n) (at1 % n) = .non:=by
     by_cases z:at2 B (at1 / n) (at1 % n) = .non
     ·exact z
     ·exact absurd (decide_eq_true z) (by simpa using hnon)
    refine ⟨_,rfl,_,rfl,_,rfl,_,_,rfl,rfl,.inl mulOk,rfl,_,rfl,?_⟩
    rw [decide_eq_false e2]
    refine Yx ⟨_,rfl,_,rfl,_,rfl,_,_,rfl,rfl,⟨hn0,hn1⟩,_,rfl,_,rfl,_,_,rfl,rfl,hn0,g,n,B,at1 / n,at1 % n,?_,GB.grid,S,hn,hr1,hc1,fun lr H2 _ s2 hlr2=>?_⟩
    ·show [V.ref g,V.int ((at1:Int) / (n:Int)),V.int ((at1:Int) % (n:Int))]++[]=_
     rw [ediv,emod]
     rfl
    rw [ZbK] at hlr2
    refine ⟨lr,rfl,⟨_,SqL.of hlr2⟩,?_⟩
    refine Zai (xs:=ZP (Z1 n B (at1 / n) (at1 % n))) (ZeF g n B H' at1 lr)
     ⟨none,rfl,s2,hlr2,fun t z=>by cases z⟩ (fun j σ H3 _ zz0=> by obtain ⟨_,_,_,z,_⟩ := zz0; exact SqL.of z) ?_ ?_
    ·rintro j y σ H3 hj ⟨v3,rfl,s3,hlr3,hno⟩
     have hj':∃ t,(Z1 n B (at1 / n) (at1 % n))[j]? = some t/\y = .int (t:Int):=by
      unfold ZP at hj
      rw [List.getElem?_map] at hj
      cases e:(Z1 n B (at1 / n) (at1 % n))[j]? with
      | none=>rw [e] at hj; cases hj
      | some t=>rw [e] at hj; cases hj; exact ⟨t,rfl,rfl⟩
     obtain ⟨t,ht,rfl⟩:=hj'
     have htm:=List.mem_of_getElem? ht
     have htn:=(mem_rangeF.mp htm).1
     have hml:=Ji (B:=B) (r:=at1 / n) hc1 htn
     rw [decide_eq_true htm] at hml
     have hml2:=(Bool.and_eq_true _ _).mp hml.symm
     have ko:CaseOk n B (at1 / n) (at1 % n) t:=⟨hr1,hc1,htn,hen,Y3 hml2.1,Y3 hml2.2⟩
     refine ⟨_,rfl,_,rfl,_,rfl,_,_,rfl,rfl,⟨hn0,hn1⟩,_,rfl,_,rfl,_,_,rfl,rfl,hn0,_,rfl,g,n,B,at1 / n,at1 % n,.int (t:Int),?_,GB.same s3,S,hn,hr1,hc1,fun p H4 s4 Gp=>?_⟩
     ·show [V.ref g,V.int ((at1:Int) / (n:Int)),V.int ((at1:Int) % (n:Int)),V.int (t:Int)]++[]=_
      rw [ediv,emod]
      rfl
     have hf2:∀ i,i<at1+1->at2 (Jr B (at1 / n) (at1 % n) (.int (t:Int))) (i / n) (i % n) ≠ .non:=fillNext (fun i hi=>by
      rw [Yk S hr1 hc1]
      split
      ·intro z; cases z
      ·exact hf1 i hi) (by rw [Yk S hr1 hc1,if_pos ⟨rfl,rfl⟩]; intro z; cases z)
     refine ⟨_,rfl,_,_,rfl,rfl,p,n,at1+1,_,rfl,Gp,ko.sq S,ko.lat S L,h1n,hn,hlt,by exact Om.k43 hat hm hge hlt,hf2,fun b H5 s5 hb=>?_⟩
     have s05:=s3.trans (s4.trans s5)
     cases b with
     | true=>exact ⟨_,rfl,Y5 (q true H5 s05 ⟨fun _=>(Zc1 S hr1 hc1 hen).mpr ⟨t,htm,hb.mp rfl⟩,fun _=>rfl⟩)⟩
     | false =>
      refine ⟨_,rfl,Yx ⟨_,rfl,s05,s5 _ _ (s4 _ _ hlr3),fun t' ht'=>?_⟩⟩
      rw [List.take_add_one,ht] at ht'
      rcases List.mem_append.mp ht' with z | z
      ·exact hno t' z
      ·obtain rfl:t'=t:=by simpa using z
       intro z2
       exact absurd (hb.mpr z2) (by decide)
    ·rintro σ H3 ⟨v3,rfl,s3,hlr3,hno⟩
     rw [List.take_of_length_le (by unfold ZP; rw [List.length_map]; exact Nat.le_refl _)] at hno
     refine q false H3 s3 ⟨fun z=>(by cases z),fun z=>?_⟩
     obtain ⟨t,ht,hc⟩:=(Zc1 S hr1 hc1 hen).mp z
     exact absurd hc (hno t ht)
end
end My
namespace My
open PySem L2
theorem Told.has {b0:Bool} {N:Addr->Prop} {n:Nat} {B:List (List V)} {H:Hp} {m:Nat} {p:Addr} (S:Sq n B) (h:Told b0 N n B H m p):b0=true↔ZbE n B:=by
 rcases h with ⟨rfl,q,C,_,_,SC,LC,FC,EC⟩ | ⟨rfl,b,_,hb⟩
 ·exact ⟨fun _=>⟨C,SC,LC,FC,EC⟩,fun _=>rfl⟩
 ·exact ⟨fun z=>(by cases z),fun zz0=> by obtain ⟨C,SC,LC,FC,EC⟩ := zz0; exact (Zec SC LC FC m hb S EC).elim⟩
theorem Told.tup {b0:Bool} {N:Addr->Prop} {n:Nat} {B:List (List V)} {H:Hp} {m:Nat} {p:Addr} (h:Told b0 N n B H m p):∃ v,H p=some (.tup [.str (JY b0),v]):=by
 rcases h with ⟨rfl,q,C,hp,_⟩ | ⟨rfl,b,hp,_⟩
 ·exact ⟨_,hp⟩
 ·exact ⟨_,hp⟩
inductive Zgd (Tb:Addr) (vs:List V) (H:Hp) (Q:VK):Prop where
 | mk (g:Addr) (n:Nat) (B:List (List V)) (_:vs=[.ref g]) (_:GridT H g B) (_:Sq n B) (_:Lat n B) (_:n<=6) (_:H Tb=some (Zat Zcy)) (_:(∀ H',Same H H'->goR n 400 37 B 0 none->Q (.str (Str.ofString "many")) H')) (_:∀ b0 c' H',Same H H'->goR n 400 37 B 0 (some (b0,c'))->(b0=true↔ZbE n B)->Q (.str (JY b0)) H'):Zgd Tb vs H Q
noncomputable def Zhe (Tb:Addr):Sp:=fun vs H Q _=>Zgd Tb vs H Q
section
variable {P:Program} {w:World} {K:PySem.W.Frag} {mg:Str->Option Value} {base:Heap}
variable {Tb cM fC:Addr} {dC:FuncData}
theorem scWord:Zt ["_law_begun_here","_law_found"] ["_law_begun_here"] (Zf Zbm):=⟨rfl,rfl,rfl,by decide +kernel,rfl,by decide +kernel,by decide +kernel⟩
structure ClF (P:Program) (w:World) (K:PySem.W.Frag) (mg:Str->Option Value) (base:Heap) (Tb cM fC:Addr) (dC:FuncData):Prop where
 mM:mg "TooMany" = some (.ref cM)
 eM:PySem.W.exmOne K (.ref cM) (.ref cM)=some true
 m:mg "closed" = some (.ref fC)
 k:PySem.W.keepIn K (.ref fC)=true
 b:Binds K dC ["begun","most"] []
 g:FnOk P w K mg base (CX2 P w) 44 fC dC ["begun","most"] (ZbX Tb cM)
theorem ZiR {f:Addr} {fd:FuncData} (F:Fun K "_law_word" "_law_word" Zbm f fd) (Z:ClF P w K mg base Tb cM fC dC):FnOk P w K mg base CX0 45 f fd ["_law_begun_here"] (Zhe Tb):=by
 have GC:=Z.g
 refine F.ok scWord (fun vs H Q E h=>?_) (fun cdv A outer s H vs Q E hr h=>?_)
 ·obtain ⟨_,_,_,rfl,_⟩:=h
  rfl
 ·obtain ⟨g,n,B,rfl,G,S,L,hn,hTb,q0,q⟩:=h
  refine' ⟨_,Ze (Zq (i:=1) scWord.nd rfl (Or.inl rfl) Z0) (Ze (ZfH rfl rfl (fun _ _ _=>?t0) ?t1) (Zg (Zv (pv 1)))),?rd⟩
  case t0=>exact Zg (Zq (i:=1) scWord.nd rfl (Or.inl rfl) (Zz (ZT K) (Zd3 GC hr rfl Z.m Z.k Z.b .nil ZhH (Za (pv 0) (Za Zi Zc))) Zi (fun _ _=>rfl)))
  case t1=>exact PH.two (ZhA rfl Z.mM (fun _=>Zg (Zq (i:=1) scWord.nd rfl (Or.inl rfl) Z0)) ZhB)
  case rd =>
   refine ⟨rfl,_,rfl,g,400,n,B,rfl,G,S,L,hn,hTb,fun p H2 c' b0 s2 go told=>?_,fun d H2 s2 _ go=>⟨true,Z.eM,Y5 ⟨_,rfl,q0 H2 s2 go⟩⟩⟩
   obtain ⟨v,hp⟩:=told.tup
   exact ⟨p,_,(0:Int),_,rfl,rfl,SqT.of hp,rfl,_,rfl,q b0 c' H2 s2 go (told.has S)⟩
end
end My
namespace My
open PySem L2
inductive Zdf (vs:List V) (H:Hp) (Q:VK):Prop where
 | mk (g:Addr) (z:Int) (n:Nat) (B:List (List V)) (_:vs=[.ref g,.int z]) (_:GridT H g B) (_:Sq n B) (_:Lat n B) (_:1<=n) (_:n<=6) (_:∀ (p:Addr) (H':Hp) (B':List (List V)),Same H H'->GridT H' p B'->Sq n B'->Lat n B'->Q (.ref p) H'):Zdf vs H Q
noncomputable def ZbV:Sp:=fun vs H Q _=>Zdf vs H Q
section
variable {P:Program} {w:World} {K:PySem.W.Frag} {mg:Str->Option Value} {base:Heap}
variable {fC fD fO fS fR fP fE fT:Addr} {dC dD dO dS dR dP dE dT:FuncData}
theorem scFilled:Zt ["_law_begun_here","_law_cell","_law_size","_law_places","_law_row","_law_column","_law_some"] ["_law_begun_here","_law_cell"] (Zf Jd):=⟨rfl,rfl,rfl,by decide +kernel,rfl,by decide +kernel,by decide +kernel⟩
theorem Zcl:∀ (qs:List Addr) (i:Nat),(qs.map V.ref).eraseIdx i=(qs.eraseIdx i).map V.ref
 | [],_=>rfl
 | _::_,0=>rfl
 | x::l,k+1=>by rw [List.map_cons,List.eraseIdx_cons_succ,List.eraseIdx_cons_succ,List.map_cons,Zcl l k]
inductive Zdj (H:Hp) (g:Addr) (n:Nat) (B:List (List V)) (lp:Addr) (i:Nat) (ys:List V) (σ:St) (H3:Hp):Prop where
 | mk (v:Option V) (qs:List Addr) (_:σ=[v,some (.int (n:Int)),some (.ref g)]) (_:ys=qs.map V.ref) (_:Same H H3) (_:H3 lp=some (.lst ys)) (_:Paired (fun q (k:Nat)=>H3 q=some (.tup [.int ((k / n:Nat):Int),.int ((k % n:Nat):Int)])) qs (YL n B i)):Zdj H g n B lp i ys σ H3
set_option maxHeartbeats 1600000 in
theorem ZgC {f:Addr} {fd:FuncData} (F:Fun K "_law_filled_up" "_law_filled_up" Jd f fd) (T:Blt mg) (Z:GenD K mg fC fD fO fS fR fP fE fT dC dD dO dS dR dP dE dT):FnOk P w K mg base CX0 11 f fd ["_law_begun_here","_law_cell"] ZbV:=by
 have GS:FnOk P w K mg base CX0 10 fS dS ["_law_cell","_law_size"] ZbT:=ZcR Z.S.F T Z.D Z.O
 have GR:FnOk P w K mg base CX0 10 fR dR ["_law_begun_here","_law_row","_law_column"] (JZ K):=(ZaP Z.R.F T).mono (by decide)
 have GP:FnOk P w K mg base CX0 10 fP dP ["_law_begun_here","_law_row","_law_column","_law_thing"] Jw:=(ZaE Z.P.F T).mono (by decide)
 have GT:FnOk P w K mg base CX0 10 fT dT ["_law_square_here","_law_cell","_law_most"] Za6:=(Zb6 Z.T.F T Z.D Z.P).mono (by decide)
 refine F.ok scFilled (fun vs H Q E h=>?_) (fun cdv A outer s H vs Q E hr h=>?_)
 ·obtain ⟨_,_,_,_,rfl,_⟩:=h
  rfl
 ·obtain ⟨g,z,n,B,rfl,G,S,L,h1,h6,q⟩:=h
  have hu0:((A.deeper (PyProof.Rows.envOfC "_law_filled_up" (Zf Jd) s.heap.objs.size f cdv))).units<cLine:=by have:=hr.un; omega
  refine' ⟨_,Ze ?s0 (Ze ?s1 (Ze (Zb2 PassesOwn.never (PW.pt (Zac ?c0 (Ju ?c1))) (Ze ?b0 (Ze ?b1 (Ze (ZZ ?c2 (Zg (Zv ?r0)) ZE) (Zg ?b3))))) (Zg (Zv (pv 0))))),?rd⟩
  case s0=>exact Zq (i:=2) scFilled.nd rfl (Or.inr rfl) (Zw (Zu K) rfl T.len PySem.boot_len (Za (pv 0) Zc))
  case s1=>exact ZcP (i:=3) ["_law_k","_law_size","_law_begun_here"] [none,some 2,some 0] scFilled.nd rfl (Or.inl rfl) rfl rfl (ZB rfl T.range (Za (Zl Yo (pv 2) (pv 2)) Zc)) (fun _ _ _ _ _=>Jo 0) (fun _ _ _ _ _=>YG (Jm (Zaf (Zz (ZT K) (Zz (ZT K) (pv 2) (Zl ZS (pv 0) (pv 1)) (fun _ _=>rfl)) (Zl ZM (pv 0) (pv 1)) (fun _ _=>rfl))))) (fun _ _ _ _ _=>ZH (Za (Zl ZS (pv 0) (pv 1)) (Za (Zl ZM (pv 0) (pv 1)) Zc)))
  case c0=>exact Zx Zb4 (pv 2) Zi (ZN _)
  case c1=>exact Zx Zb4 (Zw (Zu K) rfl T.len PySem.boot_len (Za (pv 3) Zc)) Zi (ZN _)
  case b0=>exact Zhy (JC PySem.F.plainAttrs_list PySem.F.slot_list_pop PySem.F.type_list_pop ZhT (pv 3) (Za (Zl ZM (pv 1) (Zw (Zu K) rfl T.len PySem.boot_len (Za (pv 3) Zc))) Zc)) (Zdu (n:=2) K rfl (Y2 (ZG (i:=4) scFilled.nd rfl (Or.inl rfl)) (Y2 (ZG (i:=5) scFilled.nd rfl (Or.inl rfl)) ZbH)))
  case b1=>exact Zq (i:=6) scFilled.nd rfl (Or.inl rfl) (Zk GR hr rfl Z.R.m Z.R.F.kp Z.R.b .nil ZA (Za (pv 0) (Za (pv 4) (Za (pv 5) Zc))))
  case c2=>exact Zx (ZhJ hu0 K) (pv 6) (Yv Zc) (ZN _)
  case r0=>exact Zk GT hr rfl Z.T.m Z.T.F.kp Z.T.b .nil ZA (Za (Zk GS hr rfl Z.S.m Z.S.F.kp Z.S.b .nil ZA (Za (pv 1) (Za (pv 2) Zc))) (Za Zi (Za Zi Zc)))
  case b3=>exact Zq (i:=0) scFilled.nd rfl (Or.inr rfl) (Zk GP hr rfl Z.P.m Z.P.F.kp Z.P.b .nil ZA (Za (pv 0) (Za (pv 4) (Za (pv 5) (Za (Zz (Zce K) (pv 6) (Zl ZM (Zl ZS (pv 1) Zi) (Zw (Zu K) rfl T.len PySem.boot_len (Za (pv 6) Zc))) (fun _ _=>rfl)) Zc)))))
  case rd =>
   obtain ⟨gs,hg,hP⟩:=id G
   have hxl:(gs.map V.ref).length=n:=by rw [List.length_map,hP.length,S.len]
   have hcn:(0:Int)<(n:Int):=by exact Om.c3 ‹_›
   have hnn:(n:Int)*(n:Int)=((n*n:Nat):Int):=by rw [Int.natCast_mul]
   have hnn36:n*n<=36:=Nat.mul_le_mul h6 h6
   refine ⟨_,rfl,g,_,rfl,.inr (SqT.of hg),?_⟩
   rw [hxl]
   refine ⟨_,rfl,_,rfl,_,_,rfl,rfl,.inl ⟨by exact Om.k3 h1 h6 hxl,by exact Om.k2 h1 h6 hxl⟩,_,rfl,by omega,by omega,fun lp hlp=>?_⟩
   rw [hnn,Int.toNat_natCast]
   refine JP (Yj (n:=n*n)) (Zdj H g n B lp)
    ⟨none,[],rfl,rfl,Same.new hlp,Zd,.nil⟩ (fun i ys σ H3 zz0=> by obtain ⟨_,_,_,_,_,h3,_⟩ := zz0; exact ⟨trivial,h3⟩) ?_ ?_
   ·rintro i x ys σ H3 hx ⟨v,qs,rfl,rfl,s3,h3,hE⟩
    obtain ⟨hi,rfl⟩:=YT hx
    obtain ⟨hr',hc'⟩:=JO hi
    obtain ⟨xs1,p1,g1,g2,g3,g4⟩:=Grid.ent ((G.same s3).grid (K:=K)) S hr'
    have few:(qs.map V.ref).length<=36:=by
     rw [List.length_map,hE.length]
     unfold YL
     refine Nat.le_trans (List.length_filter_le _ _) ?_
     rw [List.length_range]
     exact Om.b2 ‹_› ‹_› rfl
    refine ⟨_,rfl,_,rfl,_,rfl,_,_,rfl,rfl,⟨hcn,by exact Om.k4 h1 h6 hxl⟩,g,xs1,_,_,rfl,rfl,g1,g2,_,rfl,_,rfl,_,_,rfl,rfl,hcn,p1,_,_,_,rfl,rfl,g3,g4 (i % n) hc',_,rfl,?_⟩
    have es:=ZaX n B i
    refine YD (fun hc=>?_) (fun hc=>?_)
    ·rw [if_pos hc] at es
     refine ⟨_,rfl,_,rfl,_,_,rfl,rfl,⟨hcn,by exact Om.k4 h1 h6 hxl⟩,_,rfl,_,rfl,_,_,rfl,rfl,hcn,(show 2<=sizeLine from Zs (by decide)),fun p hp=>?_⟩
     have s4:Same H3 (upd H3 p (.tup [.int ((i / n:Nat):Int),.int ((i % n:Nat):Int)])):=Same.new hp
     have h4:=s4 _ _ h3
     have up:∀ b row,(upd H3 p (.tup [.int ((i / n:Nat):Int),.int ((i % n:Nat):Int)])) b=some (.tup row)->(upd (upd H3 p (.tup [.int ((i / n:Nat):Int),.int ((i % n:Nat):Int)])) lp (.lst (qs.map V.ref++[.ref p]))) b=some (.tup row):=fun b row e=>by
      rw [Zh (Yi e h4 (by intro z; cases z))]
      exact e
     refine ⟨h4,ZD (by exact Om.b1 ‹_› rfl),_,qs++[p],rfl,by rw [List.map_append]; rfl,fun b u e=>?_,Zd,?_⟩
     ·rw [Zh (Zm e hlp)]
      exact s4 _ _ (s3 _ _ e)
     ·rw [es]
      exact Paired.snoc (Paired.mapP hE fun b k e=>up _ _ (s4 _ _ e)) (up _ _ Zd)
    ·rw [if_neg hc,List.append_nil] at es
     refine ⟨_,qs,rfl,rfl,s3,h3,?_⟩
     rw [es]
     exact hE
   rintro ys σ H3 ⟨v,qs,rfl,rfl,s3,h3,hE⟩
   rw [ZR] at hE
   have hq0:∀ p∈qs,∃ k,k<n*n/\H3 p=some (.tup [.int ((k / n:Nat):Int),.int ((k % n:Nat):Int)]):=fun p hp=>by
    obtain ⟨i,hi,e⟩:=List.getElem_of_mem hp
    have hqi:qs[i]? = some p:=by rw [<- e]; exact List.getElem?_eq_getElem hi
    obtain ⟨k,hk,h⟩:=Paired.getL hE hqi
    obtain ⟨hk1,hk2⟩:=List.mem_filter.mp (List.mem_of_getElem? hk)
    exact ⟨k,List.mem_range.mp hk1,h⟩
   have few0:qs.length<=36:=by
    rw [hE.length]
    unfold YL
    refine Nat.le_trans (List.length_filter_le _ _) ?_
    rw [List.length_range]
    assumption
   refine ⟨fun m σ H4=>∃ (v4 v5 v6:Option V) (g':Addr) (B':List (List V)) (rs:List Addr),σ=[some (.ref g'),some (.int z),some (.int (n:Int)),some (.ref lp),v4,v5,v6]/\Same H H4/\GridT H4 g' B'/\Sq n B'/\Lat n B'/\H4 lp=some (.lst (rs.map V.ref))/\m=rs.length/\rs.length<=36/\∀ p∈rs,∃ k,k<n*n/\H4 p=some (.tup [.int ((k / n:Nat):Int),.int ((k % n:Nat):Int)]),
    ⟨_,none,none,none,g,B,qs,rfl,s3,G.same s3,S,L,h3,rfl,few0,hq0⟩,?_⟩
   rintro m σ H4 ⟨v4,v5,v6,g',B',rs,rfl,s4,G4,S4,L4,h4,rfl,hfew,hrs⟩
   have hrl:(rs.map V.ref).length=rs.length:=List.length_map _
   refine ⟨_,rfl,_,_,rfl,rfl,_,rfl,YD (fun _=>?_) (fun _=>⟨_,rfl,q g' H4 B' s4 G4 S4 L4⟩)⟩
   refine ⟨_,rfl,lp,_,rfl,.inl (SqL.of h4),_,_,rfl,rfl,_,rfl,YD (fun h8=>?_) (fun _=>⟨_,rfl,q g' H4 B' s4 G4 S4 L4⟩)⟩
   have h8':(8:Int)<(((rs.map V.ref).length:Nat):Int):=of_decide_eq_true h8
   rw [hrl] at h8'
   refine ⟨fun σ' H'=>∃ m',m'<rs.length/\∃ (v4 v5 v6:Option V) (g':Addr) (B':List (List V)) (rs:List Addr),σ'=[some (.ref g'),some (.int z),some (.int (n:Int)),some (.ref lp),v4,v5,v6]/\Same H H'/\GridT H' g' B'/\Sq n B'/\Lat n B'/\H' lp=some (.lst (rs.map V.ref))/\m'=rs.length/\rs.length<=36/\∀ p∈rs,∃ k,k<n*n/\H' p=some (.tup [.int ((k / n:Nat):Int),.int ((k % n:Nat):Int)]),fun _ _ y=>y,?_⟩
   have hp1:(0:Int)<(rs.length:Int):=by exact Om.k42 hfew hrl h8'
   obtain ⟨i,hi,hil⟩:∃ i:Nat,z % (rs.length:Int)=(i:Int)/\i<rs.length:=by
    have e1:=Int.emod_nonneg z (show (rs.length:Int)≠0 by exact Om.k41 hfew hrl h8')
    have e2:=Int.emod_lt_of_pos z hp1
    exact ⟨(z % (rs.length:Int)).toNat,by exact Om.z1 ‹_›,by exact Om.k37 hrl e1 e2⟩
   have hsi:seqIndex? (i:Int) (rs.map V.ref).length=some i:=by
    have:=PySem.StrLaws.seqIndex_nonneg (i:=(i:Int)) (n:=(rs.map V.ref).length) (by exact Om.c6) (by rw [hrl]; exact Om.c5 ‹_›)
    simpa using this
   obtain ⟨k,hk,hpk⟩:=hrs rs[i] (List.getElem_mem hil)
   obtain ⟨hr',hc'⟩:=JO hk
   refine ⟨_,rfl,.inl ⟨rfl,_,SqL.of h4⟩,_,rfl,_,rfl,lp,_,rfl,.inl (SqL.of h4),_,_,rfl,rfl,by rw [hrl]; exact hp1,lp,_,(i:Int),i,.ref rs[i],rfl,?_,h4,by exact Om.k40 ,by exact Om.k39 hfew hrl h8' hil,hsi,by rw [List.getElem?_map,List.getElem?_eq_getElem hil]; rfl,?_⟩
   ·show [V.int (z % ((rs.map V.ref).length:Int))]=_
    rw [hrl,hi]
   rw [Zcl]
   have s45:∀ {a xs},H4 a=some (.tup xs)->(upd H4 lp (.lst ((rs.eraseIdx i).map V.ref))) a=some (.tup xs):=fun {a xs} y=>by rw [Zh (Yi y h4 (by intro y; cases y))]; exact y
   have s05:Same H (upd H4 lp (.lst ((rs.eraseIdx i).map V.ref))):=s4.upd_new hlp
   have h5:(upd H4 lp (.lst ((rs.eraseIdx i).map V.ref))) lp=some (.lst ((rs.eraseIdx i).map V.ref)):=Zd
   have G5:GridT (upd H4 lp (.lst ((rs.eraseIdx i).map V.ref))) g' B':=let ⟨ps,e1,e2⟩:=G4; ⟨ps,s45 e1,Paired.mapP e2 fun _ _ y=>s45 y⟩
   have hpk5:=s45 hpk
   have hrs5:∀ p∈rs.eraseIdx i,∃ k,k<n*n/\(upd H4 lp (.lst ((rs.eraseIdx i).map V.ref))) p=some (.tup [.int ((k / n:Nat):Int),.int ((k % n:Nat):Int)]):=fun p hp=>let ⟨k,e1,e2⟩:=hrs p (List.mem_of_mem_eraseIdx hp); ⟨k,e1,s45 e2⟩
   generalize upd H4 lp (.lst ((rs.eraseIdx i).map V.ref))=H5 at s05 h5 G5 hpk5 hrs5
   refine ⟨rs[i],_,rfl,SqT.of hpk5,rfl,_,_,rfl,_,_,rfl,rfl,?_⟩
   refine ⟨_,rfl,_,rfl,_,rfl,g',n,B',k / n,k % n,rfl,G5.grid,S4,h6,hr',hc',fun l H7 hl s7 hl7=>?_⟩
   rw [Zbd] at hl7
   refine ⟨_,rfl,Nat.zero_le _,fun le hle=>?_⟩
   have s8:Same H7 (upd H7 le (.lst [])):=Same.new hle
   have hl8:=s8 _ _ hl7
   have s58:=s7.trans s8
   have fi:((ZJ n B' (k / n) (k % n)).map V.int).all ZK=true:=List.all_eq_true.mpr fun y hy=>by
    obtain ⟨t,_,rfl⟩:=List.mem_map.mp hy
    rfl
   refine ⟨l,le,_,[],rfl,rfl,SqL.of hl8,SqL.of Zd,.inl ⟨fi,rfl⟩,_,rfl,?_⟩
   show if Jx ((ZJ n B' (k / n) (k % n)).map V.int) []=true then _ else _
   refine YD (fun _=>?_) (fun hne=>?_)
   ·refine ⟨_,rfl,_,rfl,z,n,rfl,h1,by exact Om.b1 ‹_› rfl,fun tq H9 R s9 G9 ok hRl=>?_⟩
    exact ⟨tq,0,2,n,Zah R,rfl,G9,ZfU ok hRl,h1,h6,by decide,by decide,fun p H10 B2 s10 G10 S10 sub=>q p H10 B2 (s05.trans (s58.trans (s9.trans s10))) G10 S10 (sub.lat (Zel ok hRl))⟩
   have hpos:0<(ZJ n B' (k / n) (k % n)).length:=by
    cases hx:ZJ n B' (k / n) (k % n) with
    | nil=>exact absurd (by rw [hx]; rfl) hne
    | cons x l=>exact Nat.succ_pos _
   have hpl:(0:Int)<((ZJ n B' (k / n) (k % n)).length:Int):=by exact Om.k11 hpos
   have hlm:((ZJ n B' (k / n) (k % n)).map V.int).length=(ZJ n B' (k / n) (k % n)).length:=List.length_map _
   obtain ⟨m,hm,hml⟩:∃ m:Nat,z / 7 % ((ZJ n B' (k / n) (k % n)).length:Int)=(m:Int)/\m<(ZJ n B' (k / n) (k % n)).length:=by
    have e1:=Int.emod_nonneg (z / 7) (show ((ZJ n B' (k / n) (k % n)).length:Int)≠0 by exact Om.k38 hpos hlm)
    have e2:=Int.emod_lt_of_pos (z / 7) hpl
    exact ⟨(z / 7 % ((ZJ n B' (k / n) (k % n)).length:Int)).toNat,by exact Om.z1 ‹_›,by exact Om.k37 hlm e1 e2⟩
   have hx:((ZJ n B' (k / n) (k % n)).map V.int)[m]? = some (.int (ZJ n B' (k / n) (k % n))[m]):=by rw [List.getElem?_map,List.getElem?_eq_getElem hml]; rfl
   have hxm:(ZJ n B' (k / n) (k % n))[m]∈ZJ n B' (k / n) (k % n):=List.getElem_mem hml
   generalize (ZJ n B' (k / n) (k % n))[m]=y at hx hxm
   refine ⟨_,rfl,_,rfl,_,rfl,_,rfl,_,rfl,_,_,rfl,rfl,⟨by decide,by decide⟩,_,rfl,l,_,rfl,.inl (SqL.of hl8),_,_,rfl,rfl,by rw [hlm]; exact hpl,l,_,_,.int y,rfl,rfl,SqL.of hl8,?_,g',n,B',k / n,k % n,.int y,rfl,G5.same s58,S4,h6,hr',hc',fun p8 H8 s9 g8=>?_⟩
   ·show atI _ (z / 7 % (((ZJ n B' (k / n) (k % n)).map V.int).length:Int))=_
    rw [hlm,hm]
    exact ZF hx
   ·have s59:=s58.trans s9
    exact ⟨(rs.eraseIdx i).length,by rw [List.length_eraseIdx,if_pos hil]; exact Om.k36 hfew hrl h8',_,_,_,p8,_,rs.eraseIdx i,rfl,s05.trans s59,g8,Zap S4 hr' hc' (.inr ⟨y,rfl⟩),ZaI S4 L4 hr' hc' (Zbb hxm),s59 _ _ h5,rfl,by rw [List.length_eraseIdx,if_pos hil]; exact Om.k35 hfew hrl h8',fun p hp=>let ⟨k,e1,e2⟩:=hrs5 p hp; ⟨k,e1,s59 _ _ e2⟩⟩
end
end My
namespace L2
open PySem PySem.Spec PyProof.Rows PySem.W SeqAt
noncomputable def AllT {α:Type} (n:Nat) (P:α->Prop):KasT α->Prop
 | .ret a=>P a
 | .ask i j k=>i<n/\j<n/\∀ b,AllT n P (k b)
theorem AllT.bind {α β:Type} {n:Nat} {P:α->Prop} {R:β->Prop} {f:α->KasT β} (hf:∀ a,P a->AllT n R (f a)):∀ {t:KasT α},AllT n P t->AllT n R (t.bind f)
 | .ret a,h=>hf a h
 | .ask i j k,h=>⟨h.1,h.2.1,fun b=>AllT.bind hf (h.2.2 b)⟩
theorem AllT.run {α:Type} {n:Nat} {P:α->Prop} (lt:Nat->Nat->Bool):∀ {t:KasT α},AllT n P t->∃ a,ZaA n lt t=some a/\P a
 | .ret a,h=>⟨a,rfl,h⟩
 | .ask i j k,h=>by
  obtain ⟨a,e,ha⟩:=AllT.run lt (h.2.2 (lt i j))
  refine ⟨a,?_,ha⟩
  unfold ZaA
  rw [decide_eq_true h.1,decide_eq_true h.2.1]
  exact e
noncomputable def Pm (n:Nat) (p:Array Nat):Prop:=p.Perm (List.toArray (List.range n))
theorem Pm.lt {n:Nat} {p:Array Nat} (h:Pm n p) (h0:0<n) (i:Nat):p.getD i 0<n:=by
 rw [Array.getD_eq_getD_getElem?]
 cases e:p[i]? with
 | none=>exact h0
 | some x =>
  have hx:x∈p:=Array.mem_of_getElem? e
  have:=(Array.Perm.mem_iff h).mp hx
  simpa using this
theorem Pm.rev {n:Nat} {p:Array Nat} (h:Pm n p) (i j:Nat):Pm n (kas_rev p i j):=(mirror_perm p i j _).trans h
section
variable {n:Nat} (h0:0<n)
include h0
theorem ZdS {p:Array Nat} (h:Pm n p):∀ f m,AllT n (fun _=>True) (kas_asc p f m)
 | 0,_=>trivial
 | f+1,m=>⟨h.lt h0 _,h.lt h0 _,fun b=>by
   cases b
   ·exact ZdS h f (m+1)
   ·exact trivial⟩
theorem Za4:∀ (f:Nat) {p:Array Nat} (m q:Nat),Pm n p->AllT n (fun r=>Pm n r.1) (kas_desc f p m q)
 | 0,_,_,_,h=>h
 | f+1,p,m,q,h=>⟨h.lt h0 _,h.lt h0 _,fun b=>by
   cases b
   ·refine ⟨h.lt h0 _,h.lt h0 _,fun d=>?_⟩
    cases d
    ·exact Za4 f (m+1) (q+1) h
    ·exact h
   ·show AllT n _ (if q>0 then kas_desc f (kas_rev p (m - (q+1)) m) (m+1) 0 else kas_desc f p (m+1) 0)
    split
    ·exact Za4 f (m+1) 0 (h.rev _ _)
    ·exact Za4 f (m+1) 0 h⟩
theorem Zc9 {p:Array Nat} (h:Pm n p) (m r:Nat):AllT n (fun x=>Pm n x.2) (kas_tail3 m r p):=AllT.bind (P:=fun _=>True) (fun a _=>by
  show Pm n (kas_rev p 0 m)
  exact h.rev _ _) (ZdS h0 (h.rev 0 m) _ _)
theorem Za3 {p:Array Nat} (h:Pm n p) (m r:Nat):AllT n (fun x=>Pm n x.2) (kas_descPart m r p):=AllT.bind (fun a ha=>by
  show AllT n _ (if a.2.2>0 then _ else _)
  split
  ·exact Zc9 h0 (Pm.rev ha _ _) _ _
  ·exact Zc9 h0 ha _ _) (Za4 h0 _ _ _ h)
theorem Zg1 {p:Array Nat} (h:Pm n p) (r:Nat):AllT n (fun x=>Pm n x.2) (kas_count r p):=AllT.bind (fun a _=>by
  show AllT n _ (if (a==r)=true then _ else _)
  split
  ·exact h
  ·split
   ·refine ⟨h.lt h0 _,h.lt h0 _,fun c=>?_⟩
    cases c
    ·exact Za3 h0 (h.rev _ _) _ _
    ·exact h
   ·exact Za3 h0 h _ _) (ZdS h0 h _ _)
theorem Zbi {p:Array Nat} (h:Pm n p) (k:Nat):∀ f l r,AllT n (fun _=>True) (kas_place p k f l r)
 | 0,_,_=>trivial
 | f+1,l,r=>by
  unfold kas_place
  split
  ·exact trivial
  ·refine ⟨h.lt h0 _,h.lt h0 _,fun c=>?_⟩
   cases c
   ·exact Zbi h k f _ _
   ·exact Zbi h k f _ _
theorem Zgc:∀ (f:Nat) {p:Array Nat} (k:Nat),Pm n p->AllT n (Pm n) (kas_bin f p k)
 | 0,_,_,h=>h
 | f+1,p,k,h=>AllT.bind (fun l _=>Zgc f (k+1) ((bubble_perm p k _).trans h)) (Zbi h0 h k _ _ _)
theorem Zhk (lt:Nat->Nat->Bool):∃ p,ZaA n lt (kas_sort n)=some p/\Pm n p:=AllT.run lt (AllT.bind (fun a ha=>by
  show AllT n _ (if a.1<n then _ else _)
  split
  ·exact Zgc h0 _ _ ha
  ·exact ha) (Zg1 h0 (Array.Perm.refl _) n))
end
section
variable {prog:Program} {w:World} {A:Around} {E:Value->Shared->Prop} {s:Shared}
noncomputable def GrAt (h:Heap):List Value->List (List Int)->Prop:=Paired fun v row=>∃ a us,v=Value.ref a/\h.IsTuple a (List.toArray us)/\IntsAre us row
theorem GrAt.keep {h h':Heap} {us:List Value} {r:List (List Int)} (x:GrAt h us r) (k:∀ b o,o.cls = .type "tuple" -> h.get? b=some o->h'.get? b=some o):GrAt h' us r :=
 Paired.mapP x fun _ _ ⟨a,u,e,⟨o,g,c,d⟩,i⟩=>⟨a,u,e,⟨o,k _ _ c g,c,d⟩,i⟩
noncomputable def ZgJ:List (List Int)->List (List Int)->Bool
 | x::xs,y::ys=>if x=y then ZgJ xs ys else JX x y
 | _,_=>false
theorem Zeh {k:Nat} {Q:Bool->Shared->Prop} (hu:A.units<cLine):∀ {us vs:List Value} {p q:List (List Int)} {i:Nat},GrAt s.heap us p->GrAt s.heap vs q->(∀ x∈p,x.length=k)->(∀ x∈q,x.length=k)->p.length=q.length->Q (ZgJ p q) s->KatLex prog w A false false Q (us.zip vs) i s
 | _,_,_,_,_,.nil,.nil,_,_,_,h=>h
 | _,_,_,_,_,.cons _ _,.nil,_,_,e,_=>by cases e
 | _,_,_,_,_,.nil,.cons _ _,_,_,e,_=>by cases e
 | _,_,x::xs,y::ys,i,.cons ⟨a,u,ea,ta,ia⟩ r,.cons ⟨b,v,eb,tb,ib⟩ r',hx,hy,e,h=>by
  subst ea
  subst eb
  have l:x.length=y.length:=(hx x List.mem_cons_self).trans (hy y List.mem_cons_self).symm
  refine kat_cons (Zjg ta tb ia ib l hu prog w _ _ ?_)
  unfold ZgJ at h
  by_cases hxy:x=y
  ·rw [decide_eq_true hxy]
   rw [if_pos hxy] at h
   exact kat_yes (Zeh hu r r' (fun z hz=>hx z (List.mem_cons_of_mem _ hz)) (fun z hz=>hy z (List.mem_cons_of_mem _ hz)) (Nat.succ.inj e) h)
  ·rw [decide_eq_false hxy]
   rw [if_neg hxy] at h
   exact kat_no (kat_one _ _ (Zi4 ta tb ia ib l hu h))
noncomputable def Grs (h:Heap):List Value->List (List (List Int))->Prop:=Paired fun v r=>∃ a o us n,v=Value.ref a/\h.get? a=some o/\o.cls = .type "tuple" /\ o.data = .seq (List.toArray us) n/\GrAt h us r
theorem Zch {h:Heap} {M:Model}:∀ {vs:List Value} {S:List (List (List Int))},Grs h vs S->(∀ r∈S,r≠[])->∃ fs,KatTups h vs fs/\fs.length=vs.length/\∀ v∈fs,Looks M h (typeOf v) (.type "tuple")
 | _,_,.nil,_=>⟨[],.nil,rfl,fun v hv=>by cases hv⟩
 | _,_,.cons ⟨a,o,us,n,e,g,c,d,gr⟩ t,hS=>by
  subst e
  obtain ⟨fs,k,hl,hT⟩:=Zch (M:=M) t fun r hr=>hS r (List.mem_cons_of_mem _ hr)
  have h0:=hS _ List.mem_cons_self
  cases gr with
  | nil=>exact absurd rfl h0
  | cons x r =>
   obtain ⟨a1,u1,e1,⟨o1,g1,c1,d1⟩,_⟩:=x
   subst e1
   refine ⟨.ref a1::fs,KatTups.cons g c d rfl k,by rw [List.length_cons,List.length_cons,hl],fun v hv=>?_⟩
   rcases List.mem_cons.mp hv with e | hv
   ·subst e
    exact fun A Q E s k q=>wpAny_typeOf_ref (k _ _ g1) (by rw [c1]; exact q)
   ·exact hT v hv
theorem Zcz {a:Addr} {vs:List Value} {S:List (List (List Int))} {n k:Nat} {p:Array Nat} {P:PySem.Fin->Shared->Prop} (ho:s.heap.get? a=some (seqObj "list" vs.toArray n)) (ht:Grs s.heap vs S) (hk:∀ r∈S,r.length=k/\∀ x∈r,x.length=k) (hk0:0<k) (hu:A.units+3<cLine)
  (h2:2<=vs.length) (h64:vs.length<64) (hp:ZaA vs.length (fun i j=>ZgJ (S.getD i []) (S.getD j [])) (kas_sort vs.length)=some p)
  (h:P (.done (.ret .none)) { s with heap:=sortedHeap s.heap a vs (List.toArray (p.toList.map fun i=>vs.getD i Value.none)) }) :
  wpAny (model prog w) A (Builtin.«list.sort» ⟨[.ref a],[]⟩) P E s:=by
 have ha:a<s.heap.objs.size:=Heap.lt_size ho
 obtain ⟨e1,ho1⟩:∃ e1,(s.heap.update a (Obj.mapSeq fun _=>(#[]:Array Value))).get? a=some (seqObj "list" #[] e1):=⟨_,get?_update_seq ho fun _=>#[]⟩
 have keep:∀ b o,b≠a->s.heap.get? b=some o->(((s.heap.update a (Obj.mapSeq fun _=>(#[]:Array Value))).push (seqObj "tuple" vs.toArray 0)).push (seqObj "list" #[] 0)).get? b=some o:=fun b o hb e=>by
  refine Heap.get?_push_of_some _ (Heap.get?_push_of_some _ ?_)
  rw [Heap.get?_update_ne _ _ _ _ hb]
  exact e
 have ho6:(((s.heap.update a (Obj.mapSeq fun _=>(#[]:Array Value))).push (seqObj "tuple" vs.toArray 0)).push (seqObj "list" #[] 0)).get? a=some (seqObj "list" #[] e1):=Heap.get?_push_of_some _ (Heap.get?_push_of_some _ ho1)
 have ht3:Grs (((s.heap.update a (Obj.mapSeq fun _=>(#[]:Array Value))).push (seqObj "tuple" vs.toArray 0)).push (seqObj "list" #[] 0)) vs S:=Paired.mapP ht fun v r ⟨b,o,us,m,e,g,c,d,iu⟩=>by
  have kt:∀ b o,o.cls = .type "tuple" -> s.heap.get? b=some o->(((s.heap.update a (Obj.mapSeq fun _=>(#[]:Array Value))).push (seqObj "tuple" vs.toArray 0)).push (seqObj "list" #[] 0)).get? b=some o:=fun b o c g=>keep b o (fun z=>by
   rw [z,ho] at g
   cases g
   exact absurd c (by simp [seqObj])) g
  exact ⟨b,o,us,m,e,kt b o c g,c,d,GrAt.keep iu kt⟩
 rw [list_sort_plain]
 refine wpAny_bind (listItems_at ho rfl ?_)
 refine wpAny_bind (listUpdate_at ho rfl ?_ (by rw [List.size_toArray,sizeLine_eq]; exact Om.k29 h2 h64) (Nat.zero_le _))
 refine wpAny_bind (seqEpoch_at ho1 rfl ?_)
 refine wpAny_bind (wpAny_newTuple ?_ (by show vs.length<=_; rw [sizeLine_eq]; exact Om.k29 h2 h64))
 refine wpAny_bind (wpAny_newList ?_ (Nat.zero_le _))
 refine wpAny_holding ?_
 show wpAny (model prog w) A _ P E { s with heap:=((s.heap.update a (Obj.mapSeq fun _=>(#[]:Array Value))).push (seqObj "tuple" vs.toArray 0)).push (seqObj "list" #[] 0) }
 dsimp only
 have hn2:¬ vs.toArray.size<2:=by rw [List.size_toArray]; exact Om.k34 h2 h64
 rw [if_neg hn2,if_neg hn2]
 obtain ⟨fs,kt,hfl,hT⟩:=Zch (M:=model prog w) ht3 (fun r hr z=>by have:=(hk r hr).1; rw [z] at this; simp at this; exact (Om.k33 hk0 this).elim)
 refine wpAny_bind (kat_kind kt (by exact Om.k32 h2 h64 hfl) hT rfl ?_)
 have hlen:vs.length=S.length:=Paired.length ht3
 have hk3:(kas_sort vs.length).kasWp (kas_ask prog w A (tuples' (Value.type "tuple" != Value.type "tuple")) vs) (fun p' s'=>p'=p/\s'={ s with heap:=((s.heap.update a (Obj.mapSeq fun _=>(#[]:Array Value))).push (seqObj "tuple" vs.toArray 0)).push (seqObj "list" #[] 0) }) { s with heap:=((s.heap.update a (Obj.mapSeq fun _=>(#[]:Array Value))).push (seqObj "tuple" vs.toArray 0)).push (seqObj "list" #[] 0) }:=by
  refine Zds (fun i j C hi hj hC=>?_) _ hp ⟨rfl,rfl⟩
  obtain ⟨ri,hri,bi,oi,ui,mi,ei,gi,ci,di,ii⟩:=Paired.getL ht3 (List.getElem?_eq_getElem hi)
  obtain ⟨rj,hrj,bj,oj,uj,mj,ej,gj,cj,dj,ij⟩:=Paired.getL ht3 (List.getElem?_eq_getElem hj)
  have e1:vs.getD i Value.none = .ref bi:=by rw [List.getD_eq_getElem?_getD,List.getElem?_eq_getElem hi,ei]; rfl
  have e2:vs.getD j Value.none = .ref bj:=by rw [List.getD_eq_getElem?_getD,List.getElem?_eq_getElem hj,ej]; rfl
  have e3:S.getD i []=ri:=by rw [List.getD_eq_getElem?_getD,hri]; rfl
  have e4:S.getD j []=rj:=by rw [List.getD_eq_getElem?_getD,hrj]; rfl
  have l1:=hk ri (List.mem_of_getElem? hri)
  have l2:=hk rj (List.mem_of_getElem? hrj)
  rw [e3,e4] at hC
  show wpAny (model prog w) A (keyLt' _ (vs.getD i Value.none) (vs.getD j Value.none)) C _ _
  rw [e1,e2]
  have hsz:decide ((List.toArray ui).size<(List.toArray uj).size)=false:=by
   rw [List.size_toArray,List.size_toArray,Paired.length ii,Paired.length ij,l1.1,l2.1]
   simp
  refine kat_lt gi di gj dj ?_
  rw [hsz]
  exact Zeh (k:=k) (by exact Om.k31 hu) ii ij l1.2 l2.2 (l1.1.trans l2.1.symm) hC
 refine wpAny_bind (wpAny_mono (kat_run (ks:=vs) (Q:=fun st' s'=>∃ p':Array Nat,p'.size=vs.length/\arrOf st'=p'.map (kas_item (vs.toArray.zip vs.toArray))/\failedOf st'=none/\p'=p/\s'={ s with heap:=((s.heap.update a (Obj.mapSeq fun _=>(#[]:Array Value))).push (seqObj "tuple" vs.toArray 0)).push (seqObj "list" #[] 0) })
  rfl h2 h64 (fun p' st' s' a1 a2 a3 a4=>⟨p',a1,a2,a3,a4⟩) hk3) ?_ fun _ _ e=>e)
 rintro ⟨⟨⟩,st'⟩ s' ⟨p',hpz,har,hf,rfl,rfl⟩
 dsimp only
 have hout:=kat_snds rfl har
 have hsz:(List.toArray (p'.toList.map fun i=>vs.getD i Value.none)).size=vs.length:=by rw [List.size_toArray,List.length_map,Array.length_toList,hpz]
 rw [hout]
 refine wpAny_bind (seqEpoch_at ho6 rfl ?_)
 refine wpAny_bind (listUpdate_at ho6 rfl ?_ (Nat.zero_le _) (Nat.le_trans (Nat.le_of_eq hsz) (by rw [sizeLine_eq]; exact Om.k30 h2 h64 hfl hlen hpz hsz)))
 rw [hf]
 simp only [bne_self_eq_false,Bool.false_eq_true,if_false]
 exact wpAny_pure h
theorem Ze5 {d:Addr} {vs:List Value} {S:List (List (List Int))} {k:Nat} {p:Array Nat} {Q:Value->Shared->Prop} (hl:s.heap.IsList d vs.toArray) (ht:Grs s.heap vs S) (hk:∀ r∈S,r.length=k/\∀ x∈r,x.length=k) (hk0:0<k) (hu:A.units+6<cLine)
  (h2:2<=vs.length) (h64:vs.length<64) (hp:ZaA vs.length (fun i j=>ZgJ (S.getD i []) (S.getD j [])) (kas_sort vs.length)=some p)
  (h:∀ (l:Addr) (h1 h':Heap) (e:Nat),(∀ b o,s.heap.get? b=some o->h1.get? b=some o)->h1.objs.size<=l->(∀ b o,h1.get? b=some o->h'.get? b=some o)->h'.get? l=some (seqObj "list" (List.toArray (p.toList.map fun i=>vs.getD i Value.none)) e)->Q (.ref l) { s with heap:=h' }) :
  wpAny (model prog w) A (call (.builtin "sorted") [.ref d]) Q E s:=by
 obtain ⟨o,ho,hc,n,hd⟩:=id hl
 refine Calls.call_function_entry kind_sorted plain_sorted entry_sorted (args_sorted1 _) ?_
 unfold Builtin.«sorted»
 refine wpAny_bind (m:=checkCount "sorted" 1 1 _) (wpAny_pure (wpAny_bind ?_))
 have hz:vs.toArray.size<=sizeLine:=by rw [List.size_toArray,sizeLine_eq]; exact Om.k29 h2 h64
 refine wpAny_collect_seq (hsz:=hz) d (.inl rfl) ho hc hd fun h1 k1=>?_
 rw [List.toList_toArray]
 refine wpAny_bind (wpAny_newList ?_ (by rw [sizeLine_eq]; exact Om.k29 h2 h64))
 have g:(h1.push (seqObj "list" vs.toArray 0)).get? h1.objs.size=some (seqObj "list" vs.toArray 0):=Heap.get?_push_size _ rfl
 have ht1:Grs (h1.push (seqObj "list" vs.toArray 0)) vs S:=Paired.mapP ht fun v r ⟨b,o,us,m,e,g,c,d,iu⟩=>⟨b,o,us,m,e,Heap.get?_push_of_some _ (k1 _ _ g),c,d,GrAt.keep iu fun b o _ g=>Heap.get?_push_of_some _ (k1 _ _ g)⟩
 refine wpAny_bind (wpAny_holding (wpAny_call_entry slot_list_sort ⟨_,g,rfl⟩ entry_list_sort (Zcz g ht1 hk hk0 (by show A.units+1+1+3<cLine; exact Om.k28 hu) h2 h64 hp ⟨_,rfl,?_⟩) (args_list_sort _)))
 obtain ⟨e,he⟩:=sortedHeap_at (out:=List.toArray (p.toList.map fun i=>vs.getD i Value.none)) g
 refine wpAny_pure ⟨_,rfl,h h1.objs.size h1 _ e k1 (Nat.le_refl _) (fun b o x=>?_) he⟩
 have hb:=Heap.lt_size x
 rw [sortedHeap_old (Nat.ne_of_lt hb) (by rw [size_push']; exact Nat.lt_succ_of_lt hb)]
 exact Heap.get?_push_of_some _ x
end
noncomputable def Zgt:List V->Hp->VK->Prop:=fun xs H Q=>∃ (d:Addr) (ps:List Addr) (S:List (List (List Int))) (k:Nat),xs=[.ref d]/\H d=some (.lst (ps.map V.ref))/\Paired (fun q (r:List (List Int))=>∃ rs:List Addr,H q=some (.tup (rs.map V.ref))/\Paired (fun a (x:List Int)=>H a=some (.tup (x.map V.int))) rs r) ps S/\(∀ r∈S,r.length=k/\∀ x∈r,x.length=k)/\0<k/\S.length<64 /\
 ∀ (l:Addr) (qs:List Addr),H l=none->qs.Perm ps->Q (.ref l) (upd H l (.lst (qs.map V.ref)))
theorem ZcE {X:Cx} (hu:X.A.units+6<cLine):JV X (.builtin "sorted") Zgt:=by
 intro pins s σ H xs us Q I r h
 obtain ⟨d,ps,S,k,rfl,hd,hP,hk,hk0,h64,q⟩:=h
 obtain ⟨u,rfl,rx⟩:=ZaG r
 cases rx
 obtain ⟨z,its,n,rv,hl,e⟩:=I.lstM hd
 have row:∀ {rs:List Addr} {R:List (List Int)} {us:List Value},Paired (fun a (x:List Int)=>H a=some (.tup (x.map V.int))) rs R->Vals (rs.map V.ref) us->GrAt s.heap us R:=by
  intro rs R us hP
  induction hP generalizing us with
  | nil=>intro rv; cases rv; exact .nil
  | @cons a x rs R ha _ ih =>
   intro rv
   rw [List.map_cons] at rv
   cases rv with
   | cons r1 r2 =>
    cases r1
    obtain ⟨_,u1,ru1,p1⟩:=I.hok a _ ha
    have p1:IsTupN s.heap a u1.toArray:=p1
    exact .cons ⟨a,u1,rfl,p1.is,Zcf ru1⟩ (ih r2)
 have tup:∀ {ps:List Addr} {S:List (List (List Int))} {its:List Value},Paired (fun q (r:List (List Int))=>∃ rs:List Addr,H q=some (.tup (rs.map V.ref))/\Paired (fun a (x:List Int)=>H a=some (.tup (x.map V.int))) rs r) ps S->Vals (ps.map V.ref) its->Grs s.heap its S:=by
  intro ps S its hP
  induction hP generalizing its with
  | nil=>intro rv; cases rv; exact .nil
  | @cons q r ps S hq _ ih =>
   intro rv
   rw [List.map_cons] at rv
   cases rv with
   | cons r1 r2 =>
    cases r1
    obtain ⟨rs,hq,hr⟩:=hq
    obtain ⟨_,us,ru,o,g,c,m,e⟩:=I.hok q _ hq
    exact .cons ⟨q,o,us,m,rfl,g,c,congrArg Prod.fst e,row hr ru⟩ (ih r2)
 have ht:=tup hP rv
 have hlen:its.length=S.length:=Paired.length ht
 have hpl:ps.length=S.length:=hP.length
 by_cases h2:its.length<2
 ·refine Ze6 (d:=d) (vs:=its) ⟨_,e,rfl,n,rfl⟩ h2 fun l h1 h' e' k1 hl1 k2 he=>?_
  have I1:Inv X pins σ H { s with heap:=h1 }:=I.kept (t':=s.toks) k1
  refine ⟨.ref l,_,I1.laid (t':=s.toks) (o:=.lst (ps.map V.ref)) k2 hl1 ?_,rfl,q _ ps (I1.hok.fresh hl1) (List.Perm.refl _)⟩
  exact ⟨by rw [List.length_map,hpl,sizeLine_eq]; exact Om.k27 h64 hlen hpl h2,its,e',rv,by simpa using he⟩
 ·obtain ⟨p,hp,pm⟩:=Zhk (n:=its.length) (by exact Om.k26 h64 hlen hpl h2) (fun i j=>ZgJ (S.getD i []) (S.getD j []))
  have pl:p.toList.Perm (List.range its.length):=by
   have:=Array.perm_iff_toList_perm.mp pm
   simpa using this
  refine Ze5 (d:=d) (vs:=its) ⟨_,e,rfl,n,rfl⟩ ht hk hk0 hu (by exact Om.k25 h64 hlen hpl h2) (by exact Om.x1 ‹_› ‹_›) hp fun l h1 h' e' k1 hl1 k2 he=>?_
  have I1:Inv X pins σ H { s with heap:=h1 }:=I.kept (t':=s.toks) k1
  have hperm:(p.toList.map fun i=>ps.getD i 0).Perm ps:=by
   have e1:(List.range its.length).map (fun i=>ps.getD i 0)=ps:=by
    refine List.ext_getElem (by rw [List.length_map,List.length_range]; exact Om.g2 ‹_› ‹_›) fun i g1 g2=>?_
    simp [List.getD_eq_getElem?_getD,g2]
   have:=pl.map fun i=>ps.getD i 0
   rw [e1] at this
   exact this
  refine ⟨.ref l,_,I1.laid (t':=s.toks) (o:=.lst ((p.toList.map fun i=>ps.getD i 0).map V.ref)) k2 hl1 ?_,rfl,q _ _ (I1.hok.fresh hl1) hperm⟩
  refine ⟨by rw [List.length_map,hperm.length_eq,hpl,sizeLine_eq]; exact Om.k24 h64 hlen hpl h2,p.toList.map fun i=>its.getD i Value.none,e',?_,by simpa using he⟩
  have go:∀ l:List Nat,(∀ i∈l,i<its.length)->Vals ((l.map fun i=>ps.getD i 0).map V.ref) (l.map fun i=>its.getD i Value.none):=by
   intro l
   induction l with
   | nil=>intro _; exact .nil
   | cons i l ih =>
    intro hl'
    refine .cons ?_ (ih fun j hj=>hl' j (List.mem_cons_of_mem _ hj))
    have hi:=hl' i List.mem_cons_self
    have hg:(ps.map V.ref)[i]? = some (.ref (ps.getD i 0)):=by
     rw [List.getElem?_map,List.getElem?_eq_getElem (by exact Om.k23 hlen hpl hi),List.getD_eq_getElem?_getD,List.getElem?_eq_getElem (by exact Om.k23 hlen hpl hi)]
     rfl
    obtain ⟨u,hu,ru⟩:=rv.get hg
    have:its.getD i Value.none=u:=by rw [List.getD_eq_getElem?_getD,hu]; rfl
    show RelV (V.ref (ps.getD i 0)) (its.getD i Value.none)
    rw [this]
    exact ru
  exact go _ fun i hi=>List.mem_range.mp ((pl.mem_iff).mp hi)
end L2
namespace My
open PySem L2
inductive Zgj (Tb:Addr) (vs:List V) (H:Hp) (Q:VK):Prop where
 | mk (g:Addr) (n:Nat) (B:List (List V)) (_:vs=[.ref g]) (_:GridT H g B) (_:Sq n B) (_:n<=6) (_:Zkn n B) (_:H Tb=some (Zat Zcy)) (_:∀ l H' ch (ps:List Addr),Same H H'->H l=none->IsFirst n B ch->H' l=some (.lst (ps.map V.ref))->Paired (fun p t=>GridT H' p (Zae B ch t)) ps ch.xs->Q (.ref l) H'):Zgj Tb vs H Q
noncomputable def Zhj (Tb:Addr):Sp:=fun vs H Q _=>Zgj Tb vs H Q
theorem Zip {n:Nat} {B:List (List V)} {ch:Ch} (h:ch∈ZV n B):ch.xs.length<=n:=by
 have lin:∀ {nm:Str} {L Cr:List (List V)},ch∈ZX nm n L Cr n->ch.xs.length<=n:=fun {nm L Cr} h=>by
  obtain ⟨r,hr,hm⟩:=List.mem_flatMap.mp h
  obtain ⟨t,ht,rfl⟩:=List.mem_map.mp hm
  exact ZW _ _
 rcases List.mem_append.mp h with h | h
 ·rcases List.mem_append.mp h with h | h
  ·obtain ⟨r,hr,hm⟩:=List.mem_flatMap.mp h
   obtain ⟨t,ht,rfl⟩:=List.mem_map.mp hm
   exact ZW _ _
  ·exact lin h
 ·exact lin h
section
variable {P:Program} {w:World} {K:PySem.W.Frag} {mg:Str->Option Value} {base:Heap}
variable {Tb fF fC:Addr} {dF dC:FuncData}
theorem scEach:Zt ["begun","first"] ["begun"] (Zf Zbp):=⟨rfl,rfl,rfl,by decide +kernel,rfl,by decide +kernel,by decide +kernel⟩
inductive Zdk (g:Addr) (B:List (List V)) (pf:Addr) (H1:Hp) (ch:Ch) (la:Addr) (i:Nat) (ys:List V) (σ:St) (H3:Hp):Prop where
 | mk (v:Option V) (qs:List Addr) (_:σ=[v,some (.ref g),some (.ref pf)]) (_:ys=qs.map V.ref) (_:Same H1 H3) (_:H3 la=some (.lst ys)) (_:Paired (fun p t=>GridT H3 p (Zae B ch t)) qs (ch.xs.take i)):Zdk g B pf H1 ch la i ys σ H3
theorem ZiV {f:Addr} {fd:FuncData} (F:Fun K "with_each_chosen" "with_each_chosen" Zbp f fd) (DF:Dfn K mg "first_choice" ZY ["begun"] fF dF) (DC:Dfn K mg "with_chosen" JG ["begun","choice","number"] fC dC)
  (gF:FnOk P w K mg base CX0 4 fF dF ["begun"] (ZbG K Tb)) (gC:FnOk P w K mg base CX0 2 fC dC ["begun","choice","number"] Js):FnOk P w K mg base CX0 5 f fd ["begun"] (Zhj Tb):=by
 have GC:FnOk P w K mg base CX0 4 fC dC ["begun","choice","number"] Js:=gC.mono (by decide)
 refine F.ok scEach (fun vs H Q E h=>?_) (fun cdv A outer s H vs Q E hr h=>?_)
 ·obtain ⟨_,_,_,rfl,_⟩:=h
  rfl
 ·obtain ⟨g,n,B,rfl,G,S,hn,⟨r,c,hrn,hcn,he⟩,hTb,q⟩:=h
  refine' ⟨_,Ze ?s0 (Zg (Zv ?s1)),?rd⟩
  case s0=>exact Zq (i:=1) scEach.nd rfl (Or.inr rfl) (Zk gF hr rfl DF.m DF.F.kp DF.b .nil ZA (Za (pv 0) Zc))
  case s1=>exact Y7 ["number","begun","first"] [none,some 0,some 1] rfl rfl (Jn K (Zz (ZT K) (pv 1) Zi (fun _ _=>rfl))) (fun _ _ _ _ _=>Jo 0) (fun _ _ _ _ _=>YH) (fun _ _ _ _ _=>Zk GC hr rfl DC.m DC.F.kp DC.b .nil ZA (Za (pv 1) (Za (Zz (ZT K) (pv 2) Zi (fun _ _=>rfl)) (Za (pv 0) Zc))))
  case rd =>
   refine ⟨_,rfl,g,n,B,r,c,rfl,G.grid,S,hn,hrn,hcn,he,hTb,fun pf H1 ch s1 fc cf=>?_⟩
   obtain ⟨k,mL,_,f1,f2,f3⟩:=cf
   have hmem:=fc.mem
   have hx6:=Zip hmem
   refine ⟨_,rfl,pf,_,(1:Int),.ref mL,rfl,rfl,SqT.of f1,rfl,mL,rfl,⟨_,SqL.of f3⟩,fun la hla=>?_⟩
   refine JP (Jz (xs:=ZP ch.xs)) (Zdk g B pf H1 ch la)
    ⟨none,[],rfl,rfl,Same.new hla,Zd,.nil⟩ (fun i ys σ H3 zz0=> by obtain ⟨_,_,_,_,s3,h3,_⟩ := zz0; exact ⟨SqL.of (s3 _ _ f3),h3⟩) ?_ ?_
   ·rintro i x ys σ H3 hx ⟨v,qs,rfl,rfl,s3,h3,hE⟩
    have hj':∃ t,ch.xs[i]? = some t/\x = .int (t:Int):=by
     unfold ZP at hx
     rw [List.getElem?_map] at hx
     cases e:ch.xs[i]? with
     | none=>rw [e] at hx; cases hx
     | some t=>rw [e] at hx; cases hx; exact ⟨t,rfl,rfl⟩
    obtain ⟨t,ht,rfl⟩:=hj'
    have ko:=YV hmem (List.mem_of_getElem? ht)
    have s13:=s1.trans s3
    refine ⟨_,rfl,_,rfl,pf,_,(0:Int),.ref k,rfl,rfl,SqT.of (s3 _ _ f1),rfl,_,rfl,g,k,n,B,ch.nm,ch.a,ch.b,t,rfl,G.same s13,S,hn,s3 _ _ f2,ko.r,ko.c,fun p H4 s4 Gp=>?_⟩
    have h4:=s4 _ _ h3
    have hlq:(qs.map V.ref).length<=6:=by
     rw [List.length_map,hE.length,List.length_take]
     exact Om.k22 hn hx6
    have up:∀ {a xs},H4 a=some (.tup xs)->(upd H4 la (.lst (qs.map V.ref++[.ref p]))) a=some (.tup xs):=fun {a xs} y=>by rw [Zh (Yi y h4 (by intro y; cases y))]; exact y
    have upG:∀ {a:Addr} {C:List (List V)},GridT H4 a C->GridT (upd H4 la (.lst (qs.map V.ref++[.ref p]))) a C:=fun {a C} y=>let ⟨ps,e1,e2⟩:=y; ⟨ps,up e1,Paired.mapP e2 fun _ _ z=>up z⟩
    refine ⟨h4,ZD (by exact Om.b1 ‹_› rfl),_,qs++[p],rfl,by rw [List.map_append]; rfl,fun b u e=>?_,Zd,?_⟩
    ·rw [Zh (Zm e hla)]
     exact s4 _ _ (s3 _ _ e)
    ·rw [List.take_add_one,ht]
     exact Paired.snoc (Paired.mapP hE fun b t z=>upG (GridT.same z s4)) (upG Gp)
   ·rintro ys σ H3 ⟨v,qs,rfl,rfl,s3,h3,hE⟩
    rw [List.take_of_length_le (by unfold ZP; rw [List.length_map]; exact Nat.le_refl _)] at hE
    exact q la H3 ch qs (s1.trans s3) (s1.free hla) fc h3 hE
end
end My
namespace My
open PySem L2
noncomputable def Cl (n:Nat) (B C:List (List V)):Prop:=Sq n C/\Lat n C/\Y6 n C/\Ext n B C
theorem ZjL {n:Nat} {A B:List (List V)} (SA:Sq n A) (SB:Sq n B) (h:∀ r c,r<n->c<n->at2 A r c=at2 B r c):A=B:=by
 refine List.ext_getElem? fun r=>?_
 by_cases hr:r<n
 ·rw [(SA.rowAt hr).1,(SB.rowAt hr).1]
  congr 1
  refine List.ext_getElem? fun c=>?_
  by_cases hc:c<n
  ·rw [(SA.entAt hr hc).1,(SB.entAt hr hc).1,h r c hr hc]
  ·rw [List.getElem?_eq_none (by rw [(SA.rowAt hr).2.1]; exact Om.k18 hc),List.getElem?_eq_none (by rw [(SB.rowAt hr).2.1]; exact Om.k18 hc)]
 ·rw [List.getElem?_eq_none (by rw [SA.len]; exact Om.k18 hr),List.getElem?_eq_none (by rw [SB.len]; exact Om.k18 hr)]
theorem Zh8 {n:Nat} {W C:List (List V)} (SW:Sq n W) (SC:Sq n C) (F:Y6 n W) (E:Ext n W C):C=W:=ZjL SC SW fun r c hr hc=>(E r c hr hc).resolve_left (F r c hr hc)
theorem Ziq {n:Nat} {W C:List (List V)} {ch:Ch} (S:Sq n W) (h:ch∈ZV n W) (c:Cl n W C):∃ t∈ch.xs,Ext n (Zae W ch t) C:=by
 obtain ⟨t,ht,e⟩:=ZdN S c.1 c.2.1 c.2.2.1 c.2.2.2 h
 exact ⟨t,ht,(YV h ht).on S c.2.2.2 e⟩
theorem Ext.trans {n:Nat} {A B C:List (List V)} (x:Ext n A B) (y:Ext n B C):Ext n A C:=fun r c hr hc=>by
 rcases x r c hr hc with z | z
 ·exact .inl z
 ·rcases y r c hr hc with u | u
  ·exact .inl (z ▸ u)
  ·exact .inr (u.trans z)
theorem ZiL {n:Nat} {W:List (List V)} {ch:Ch} {t:Nat} (S:Sq n W) (h:ch∈ZV n W) (ht:t∈ch.xs):Ext n W (Zae W ch t):=(YV h ht).back S (Ext.refl n _)
noncomputable def Stk (n:Nat) (Ws:List (List (List V))):Prop:=∀ i W,Ws[i]? = some W->i<=6*(36 - emp n W)
noncomputable def wt (n:Nat):List (List (List V))->Nat
 | []=>0
 | W::l=>7 ^ emp n W+wt n l
theorem ZeZ {n:Nat}:∀ (a b:List (List (List V))),wt n (a++b)=wt n a+wt n b
 | [],b=>(Nat.zero_add _).symm
 | W::a,b=>by
  show 7 ^ emp n W+wt n (a++b)=7 ^ emp n W+wt n a+wt n b
  rw [ZeZ a b,Nat.add_assoc]
theorem Zjr {n b:Nat}:∀ (l:List (List (List V))),(∀ W∈l,7 ^ emp n W<=b)->wt n l<=l.length*b
 | [],_=>Nat.zero_le _
 | W::l,h=>by
  have h1:=Zjr l fun x hx=>h x (List.mem_cons_of_mem _ hx)
  have h2:=h W List.mem_cons_self
  show 7 ^ emp n W+wt n l<=(l.length+1)*b
  rw [Nat.succ_mul]
  exact Om.k21 h1 h2
theorem Zfx {n:Nat} {Us l:List (List (List V))} {W:List (List V)} (h6:l.length<=6) (h:∀ x∈l,emp n x<emp n W):wt n (Us++l)<wt n (Us++[W]):=by
 rw [ZeZ,ZeZ]
 have e1:wt n [W]=7 ^ emp n W:=Nat.add_zero _
 cases l with
 | nil =>
  have:0<7 ^ emp n W:=Nat.pow_pos (by decide)
  show wt n Us+0<wt n Us+wt n [W]
  exact Om.k20 e1 this
 | cons x l =>
  have hx:=h x List.mem_cons_self
  obtain ⟨k,hk⟩:∃ k,emp n W=k+1:=⟨emp n W - 1,by exact Om.k19 hx⟩
  have h1:=Zjr (n:=n) (b:=7 ^ k) (x::l) fun y hy=>Nat.pow_le_pow_right (by decide) (by have:=h y hy; omega)
  have h2:(x::l).length*7 ^ k<=6*7 ^ k:=Nat.mul_le_mul_right _ h6
  have h3:7 ^ (k+1)=7 ^ k*7:=Nat.pow_succ 7 k
  have h4:0<7 ^ k:=Nat.pow_pos (by decide)
  rw [e1,hk,h3]
  omega
theorem Zhc {n:Nat} {Us l:List (List (List V))} {W:List (List V)} (hn:n<=6) (h6:l.length<=6) (hs:Stk n (Us++[W])) (h:∀ x∈l,emp n x<emp n W):Stk n (Us++l):=by
 intro i x hx
 by_cases hi:i<Us.length
 ·rw [List.getElem?_append_left hi] at hx
  exact hs i x (by rw [List.getElem?_append_left hi]; exact hx)
 ·rw [List.getElem?_append_right (by exact Om.k18 hi)] at hx
  have hj:i - Us.length<l.length:=(List.getElem?_eq_some_iff.mp hx).1
  have h1:=hs Us.length W (by rw [List.getElem?_append_right (Nat.le_refl _),Nat.sub_self]; rfl)
  have h2:=h x (List.mem_of_getElem? hx)
  have h3:emp n W<37:=ZdL hn
  omega
theorem Zfz {n:Nat} {Us:List (List (List V))} {W:List (List V)} (hs:Stk n (Us++[W])):Stk n Us:=fun i x hx=>hs i x (by
 rw [List.getElem?_append_left (List.getElem?_eq_some_iff.mp hx).1]
 exact hx)
theorem ZiB {n:Nat} {Ws:List (List (List V))} (hs:Stk n Ws):Ws.length<=217:=by
 cases e:Ws.length with
 | zero=>exact Om.k17 
 | succ k =>
  have:=hs k Ws[k] (List.getElem?_eq_getElem (by exact Om.k16 e))
  omega
theorem Zg4 {α β:Type} {F:α->β->Prop}:∀ {us:List α} {w:α} {Ws:List β},Paired F (us++[w]) Ws->∃ Us W,Ws=Us++[W]/\Paired F us Us/\F w W
 | [],w,_,.cons h .nil=>⟨[],_,rfl,.nil,h⟩
 | u::us,w,_,.cons h t=>by
  obtain ⟨Us,W,rfl,p,q⟩:=Zg4 (us:=us) t
  exact ⟨_::Us,W,rfl,.cons h p,q⟩
theorem GridT.keepT {H H':Hp} {g:Addr} {B:List (List V)} (k:∀ a xs,H a=some (.tup xs)->H' a=some (.tup xs)) (G:GridT H g B):GridT H' g B:=let ⟨ps,e1,e2⟩:=G; ⟨ps,k _ _ e1,Paired.mapP e2 fun _ _ z=>k _ _ z⟩
theorem ZfJ {α β:Type} {F:α->β->Prop}:∀ {l:List α},(∀ x∈l,∃ y,F x y)->∃ S,Paired F l S
 | [],_=>⟨[],.nil⟩
 | x::l,h=>by
  obtain ⟨y,hy⟩:=h x List.mem_cons_self
  obtain ⟨S,hS⟩:=ZfJ fun z hz=>h z (List.mem_cons_of_mem _ hz)
  exact ⟨y::S,.cons hy hS⟩
theorem ZiD {u v:TS} {D:ZbF} {σ:St} {H:Hp} (M:St->Hp->Prop) (h2:∀ σ H,M σ H->v D σ H) (h1:(∀ σ H,M σ H->v D σ H)->ZjG u v D σ H):ZjG u v D σ H:=h1 h2
end My
namespace My
open PySem L2
noncomputable def ZbL (C:List (List V)):List (List Int):=C.map fun row=>row.map ZfT
theorem Zh3 {n:Nat} {C:List (List V)} (S:Sq n C) (F:Y6 n C):(ZbL C).map (fun r=>r.map V.int)=C:=by
 unfold ZbL
 rw [List.map_map]
 refine List.ext_getElem (by simp) fun i h1 h2=>?_
 rw [List.getElem_map]
 have hi:i<n:=by rw [<- S.len]; exact h2
 show (C[i].map ZfT).map V.int=C[i]
 rw [List.map_map]
 refine List.ext_getElem (by simp) fun j g1 g2=>?_
 rw [List.getElem_map]
 have hj:j<n:=by rw [<- S.row _ (List.getElem_mem h2)]; exact g2
 have e:at2 C i j=C[i][j]:=by
  unfold at2
  rw [List.getElem?_eq_getElem h2,Option.getD_some,List.getD_eq_getElem?_getD,List.getElem?_eq_getElem g2]
  rfl
 show V.int (ZfT C[i][j])=C[i][j]
 rw [<- e]
 rcases (S.entAt hi hj).2 with z | ⟨k,z⟩
 ·exact absurd z (F i j hi hj)
 ·rw [z]
  rfl
theorem Zg5 {H:Hp}:∀ {ps:List Addr} {R:List (List Int)},Paired (fun p row=>H p=some (.tup row)) ps (R.map fun r=>r.map V.int)->Paired (fun p (r:List Int)=>H p=some (.tup (r.map V.int))) ps R
 | [],[],.nil=>.nil
 | _::_,_::_,.cons h t=>.cons h (Zg5 t)
theorem Zd4 {α β γ:Type} {F:α->γ->Prop} {f:β->γ}:∀ {l:List α} {xs:List β},Paired (fun a b=>F a (f b)) l xs->Paired F l (xs.map f)
 | _,_,.nil=>.nil
 | _,_,.cons h t=>.cons h (Zd4 t)
inductive ZbB (Tb cM:Addr) (vs:List V) (H:Hp) (Q:VK) (E:XK):Prop where
 | mk (g:Addr) (far n:Nat) (B:List (List V)) (_:vs=[.ref g,.int (far:Int)]) (_:far<=60) (_:GridT H g B) (_:Sq n B) (_:Lat n B) (_:1<=n) (_:n<=6) (_:H Tb=some (Zat Zcy)) (_:(∀ (l:Addr) (qs:List Addr) H',Same H H'->H' l=some (.lst (qs.map V.ref))->qs.length<=60->(∀ q∈qs,∃ C,GridT H' q C/\Cl n B C)->(∀ C,Cl n B C->∃ q∈qs,GridT H' q C)->Q (.ref l) H')) (_:∀ d H',Same H H'->ZbE n B->E (.ref cM) (some d) H'):ZbB Tb cM vs H Q E
noncomputable def ZbW (Tb cM:Addr):Sp:=fun vs H Q E=>ZbB Tb cM vs H Q E
section
variable {P:Program} {w:World} {K:PySem.W.Frag} {mg:Str->Option Value} {base:Heap}
variable {cM fM cL fI fK fW fF fC fE Tb:Addr} {dM dI dK dW dF dC dE:FuncData}
theorem scClosings:Zt ["begun","most","found","waiting","looked_at"] ["begun","most"] (Zf YO):=⟨rfl,rfl,rfl,by decide +kernel,rfl,by decide +kernel,by decide +kernel⟩
set_option maxHeartbeats 1600000 in
theorem Zd8 {f:Addr} {fd:FuncData} {dV:Value} (F:FunD K "closings" "closings" YO f fd dV) (Z:GoD P w K mg base Tb cM fM cL fI fK fW fF fC dM dI dK dW dF dC) (D:Dfn K mg "with_each_chosen" Zbp ["begun"] fE dE)
  (gE:FnOk P w K mg base CX0 5 fE dE ["begun"] (Zhj Tb)):FnOk P w K mg base (CX2 P w) 6 f fd ["begun","most"] (ZbW Tb cM):=by
 have T:=Z.T
 have X:=Z.X
 have GI:FnOk P w K mg base CX0 1 fM dM ["self","most"] (Zhh K "most"):=ZfL X.F1
 have GW:FnOk P w K mg base CX0 5 fW dW ["begun"] (Za7 K):=(Zb7 Z.W.F T).mono (by decide)
 refine F.okX2 scClosings (fun vs H Q E h=>?_) (fun cdv A outer s H vs Q E hr h=>?_)
 ·obtain ⟨_,_,_,_,rfl,_⟩:=h
  rfl
 ·obtain ⟨g,far,n,B,rfl,h60,GB,S,L,h1,hn,hTb,q,qE⟩:=h
  have hu:((A.deeper (PyProof.Rows.envOfC "closings" (Zf YO) s.heap.objs.size f cdv))).units+6<cLine:=by have:=hr.un; omega
  refine' ⟨_,Ze ?s0 (Ze ?s1 (Ze (Zb2 PassesOwn.leaving (PW.pt (Zac ?c0 (Ju ?c1))) (Ze ?b0 (Zg (ZZ ?c2 (Zg ?b1) (Zg ?b2))))) (Ze (ZZ ?c3 (Zg ?r0) ZE) (Zg (Zv ?r1))))),?rd⟩
  case s0=>exact Zq (i:=2) scClosings.nd rfl (Or.inl rfl) (Yv Zc)
  case s1=>exact Zq (i:=3) scClosings.nd rfl (Or.inl rfl) (Yv (Za (pv 0) Zc))
  case c0=>exact Zx Zb4 (Zw (Zu K) rfl T.len PySem.boot_len (Za (pv 3) Zc)) Zi (ZN _)
  case c1=>exact Zx ZkO (Zw (Zu K) rfl T.len PySem.boot_len (Za (pv 2) Zc)) (pv 1) (ZN _)
  case b0=>exact Zq (i:=4) scClosings.nd rfl (Or.inl rfl) (ZjZ PySem.F.plainAttrs_list PySem.F.slot_list_pop PySem.F.type_list_pop Zj6 (pv 3))
  case c2=>exact Zdt (Zk GW hr rfl Z.W.m Z.W.F.kp Z.W.b .nil ZA (Za (pv 4) Zc))
  case b1=>exact Ys (JC PySem.F.plainAttrs_list PySem.F.slot_list_append PySem.F.type_list_append Z5 (pv 2) (Za (pv 4) Zc))
  case b2=>exact Ys (JC PySem.F.plainAttrs_list PySem.F.slot_list_extend PySem.F.type_list_extend ZgG (pv 3) (Za (Zk gE hr rfl D.m D.F.kp D.b .nil ZA (Za (pv 4) Zc)) Zc))
  case c3=>exact Zx Zb4 (Zw (Zu K) rfl T.len PySem.boot_len (Za (pv 2) Zc)) (pv 1) (ZN _)
  case r0=>exact ZcO X.M1 GI (hr.mono (by decide)) rfl X.mM X.b1 (Za (pv 1) Zc)
  case r1=>exact Zw (ZcE hu) rfl T.sorted PyProof.Rows.boot_sorted (Za (pv 2) Zc)
  case rd =>
   refine ⟨Nat.zero_le _,fun lf hlf=>⟨_,rfl,(show 1<=sizeLine from Zs (by decide)),fun lw hlw=>?_⟩⟩
   have hne:lw≠lf:=fun z=>by rw [z,Zd] at hlw; cases hlw
   have hlw0:H lw=none:=by rw [Zh hne] at hlw; exact hlw
   have s2:Same H (upd (upd H lf (.lst [])) lw (.lst [.ref g])):=(Same.new hlf).trans (Same.new hlw)
   have hf2:(upd (upd H lf (.lst [])) lw (.lst [.ref g])) lf=some (.lst (([]:List Addr).map V.ref)):=by rw [Zh (Ne.symm hne),Zd]; rfl
   have hw2:(upd (upd H lf (.lst [])) lw (.lst [.ref g])) lw=some (.lst ([g].map V.ref)):=Zd
   generalize upd (upd H lf (.lst [])) lw (.lst [.ref g])=H2 at s2 hf2 hw2
   dsimp only [ZaU]
   refine ZiD (fun σ H4=>∃ (v4:Option V) (fs:List Addr),σ=[some (.ref g),some (.int (far:Int)),some (.ref lf),some (.ref lw),v4]/\Same H H4/\H4 lf=some (.lst (fs.map V.ref))/\fs.length<=far+1/\(∀ p∈fs,∃ C,GridT H4 p C/\Cl n B C)/\(fs.length<=far->∀ C,Cl n B C->∃ p∈fs,GridT H4 p C)) ?_ (fun hv=>?_)
   ·rintro σ H4 ⟨v4,fs,rfl,s4,hf4,hfl,hall,hin⟩
    have hfm:(fs.map V.ref).length=fs.length:=List.length_map _
    refine ⟨_,rfl,lf,_,rfl,.inl (SqL.of hf4),_,rfl,_,_,rfl,rfl,_,rfl,?_⟩
    rw [hfm]
    by_cases hgt:(far:Int)<((fs.length:Nat):Int)
    ·rw [decide_eq_true hgt]
     obtain ⟨p,hp⟩:∃ p,p∈fs:=by
      cases fs with
      | nil=>exact absurd hgt (by show ¬ (far:Int)<((0:Nat):Int); exact Om.k15 h60 hfl hfm hgt)
      | cons p l=>exact ⟨p,List.mem_cons_self⟩
     obtain ⟨C,_,c1,c2,c3,c4⟩:=hall p hp
     refine Y5 ⟨_,rfl,(show 1<=sizeLine from Zs (by decide)),fun ee he=>⟨ee,.int (far:Int),cM,fM,rfl,Zd,X.S1,X.M1.xi,fun d hd hde=>⟨rfl,ee,d,rfl,?_,?_,?_⟩⟩⟩
     ·rw [Zh (Ne.symm hde),Zd]
     ·exact s4.free he
     ·refine qE d _ (fun b u z=>?_) ⟨C,c1,c2,c3,c4⟩
      have z4:=s4 _ _ z
      have b2:b≠ee:=Zm z4 he
      have hd0:H4 d=none:=by
       rw [Zh hde] at hd
       exact hd
      have b3:b≠d:=Zm z4 hd0
      rw [YE b2,Zh b3,Zh b2,Zh b2]
      exact z4
    ·rw [decide_eq_false hgt]
     have hle:fs.length<=far:=by exact Om.k14 hfm hgt
     obtain ⟨S',hS'⟩:=ZfJ (F:=fun (q:Addr) (r:List (List Int))=>(∃ rs:List Addr,H4 q=some (.tup (rs.map V.ref))/\Paired (fun a (x:List Int)=>H4 a=some (.tup (x.map V.int))) rs r)/\r.length=n/\∀ x∈r,x.length=n) (l:=fs) (fun p hp=>by
      obtain ⟨C,GC,SC,LC,FC,EC⟩:=hall p hp
      refine ⟨ZbL C,?_,by unfold ZbL; rw [List.length_map,SC.len],fun x hx=>?_⟩
      ·rw [<- Zh3 SC FC] at GC
       obtain ⟨rs,e1,e2⟩:=GC
       exact ⟨rs,e1,Zg5 e2⟩
      ·obtain ⟨row,hrow,rfl⟩:=List.mem_map.mp hx
       rw [List.length_map,SC.row _ hrow])
     refine Yx ⟨_,rfl,lf,fs,S',n,rfl,hf4,Paired.mapP hS' fun _ _ z=>z.1,?_,h1,?_,fun l qs hl hperm=>?_⟩
     ·intro r hr
      obtain ⟨i,hi,e⟩:=List.getElem_of_mem hr
      obtain ⟨p,_,z⟩:=Paired.getR hS' (show S'[i]? = some r by rw [List.getElem?_eq_getElem hi,e])
      exact z.2
     ·rw [<- hS'.length]
      exact Om.k13 h60 hfm hgt
     ·have s5:Same H4 (upd H4 l (.lst (qs.map V.ref))):=Same.new hl
      refine q l qs _ (s4.trans s5) Zd (by rw [hperm.length_eq]; exact Om.b3 ‹_› ‹_› rfl) (fun p hp=>?_) (fun C hC=>?_)
      ·obtain ⟨C,GC,z⟩:=hall p (hperm.mem_iff.mp hp)
       exact ⟨C,GC.same s5,z⟩
      ·obtain ⟨p,hp,GC⟩:=hin hle C hC
       exact ⟨p,hperm.mem_iff.mpr hp,GC.same s5⟩
   refine ⟨fun m σ H4=>∃ (v4:Option V) (ws fs:List Addr) (Ws:List (List (List V))),σ=[some (.ref g),some (.int (far:Int)),some (.ref lf),some (.ref lw),v4]/\Same H H4/\H4 lf=some (.lst (fs.map V.ref))/\H4 lw=some (.lst (ws.map V.ref))/\fs.length<=far+1/\Paired (GridT H4) ws Ws/\(∀ W∈Ws,Sq n W/\Lat n W/\Ext n B W)/\Stk n Ws/\m=wt n Ws/\(∀ p∈fs,∃ C,GridT H4 p C/\Cl n B C)/\∀ C,Cl n B C->(∃ p∈fs,GridT H4 p C)\/∃ W∈Ws,Ext n W C,
    ⟨_,none,[g],[],[B],rfl,s2,hf2,hw2,Nat.zero_le _,.cons (GB.same s2) .nil,fun W hW=>by obtain rfl:=List.mem_singleton.mp hW; exact ⟨S,L,Ext.refl n _⟩,?_,rfl,fun p hp=>(by cases hp),fun C hC=>.inr ⟨B,List.mem_singleton.mpr rfl,hC.2.2.2⟩⟩,?_⟩
   ·intro i W hi
    cases i with
    | zero=>exact Nat.zero_le _
    | succ i=>cases hi
   rintro m σ H4 ⟨v4,ws,fs,Ws,rfl,s4,hf4,hw4,hfl,hPw,hWs,hst,rfl,hall,hin⟩
   have hfm:(fs.map V.ref).length=fs.length:=List.length_map _
   have hwm:(ws.map V.ref).length=ws.length:=List.length_map _
   have done:(ws=[]\/far<fs.length)->∃ (v4:Option V) (fs':List Addr),[some (.ref g),some (.int (far:Int)),some (.ref lf),some (.ref lw),v4]=[some (V.ref g),some (.int (far:Int)),some (.ref lf),some (.ref lw),v4]/\Same H H4/\H4 lf=some (.lst (fs'.map V.ref))/\fs'.length<=far+1/\(∀ p∈fs',∃ C,GridT H4 p C/\Cl n B C)/\(fs'.length<=far->∀ C,Cl n B C->∃ p∈fs',GridT H4 p C):=fun hd=>⟨v4,fs,rfl,s4,hf4,hfl,hall,fun hle C hC=>by
    rcases hd with rfl | hd
    ·cases hPw
     rcases hin C hC with z | ⟨W,hW,_⟩
     ·exact z
     ·cases hW
    ·exact (Om.k12 hfm hle hd).elim⟩
   refine ⟨_,rfl,lw,_,rfl,.inl (SqL.of hw4),_,_,rfl,rfl,_,rfl,?_⟩
   rw [hwm]
   by_cases hw0:ws=[]
   ·rw [decide_eq_false (show ¬ (0:Int)<((ws.length:Nat):Int) by rw [hw0]; decide)]
    obtain ⟨_,fs',_,z⟩:=done (.inl hw0)
    exact Yx (hv _ _ ⟨v4,fs',rfl,z⟩)
   have hwpos:0<ws.length:=by
    cases ws with
    | nil=>exact absurd rfl hw0
    | cons x l=>exact Nat.succ_pos _
   rw [decide_eq_true (show (0:Int)<((ws.length:Nat):Int) by exact Om.k11 hwpos)]
   refine Y5 ⟨_,rfl,lf,_,rfl,.inl (SqL.of hf4),_,rfl,_,_,rfl,rfl,_,rfl,?_⟩
   rw [hfm]
   by_cases hfar:far<fs.length
   ·rw [decide_eq_false (show ¬ ((fs.length:Nat):Int)<=(far:Int) by exact Om.k10 hfl hfm hfar)]
    obtain ⟨_,fs',_,z⟩:=done (.inr hfar)
    exact Yx (hv _ _ ⟨v4,fs',rfl,z⟩)
   rw [decide_eq_true (show ((fs.length:Nat):Int)<=(far:Int) by exact Om.k9 hfm hfar)]
   obtain ⟨us,lk,rfl⟩:∃ us lk,ws=us++[lk]:=⟨ws.dropLast,ws.getLast hw0,(List.dropLast_concat_getLast hw0).symm⟩
   obtain ⟨Us,W,rfl,hPu,GW4⟩:=Zg4 hPw
   obtain ⟨SW,LW,EW⟩:=hWs W (List.mem_append_right _ (List.mem_singleton.mpr rfl))
   have hlast:((us++[lk]).map V.ref)[((us++[lk]).map V.ref).length - 1]? = some (.ref lk):=by
    rw [List.map_append,List.length_append,List.length_map]
    show (us.map V.ref++[V.ref lk])[us.length+1 - 1]? = _
    rw [Nat.add_sub_cancel,List.getElem?_append_right (by rw [List.length_map]; exact Nat.le_refl _),List.length_map,Nat.sub_self]
    rfl
   have hdl:((us++[lk]).map V.ref).dropLast=us.map V.ref:=by
    rw [List.map_append]
    exact List.dropLast_concat
   refine Y5 ⟨fun σ' H'=>∃ m',m'<wt n (Us++[W])/\∃ (v4:Option V) (ws fs:List Addr) (Ws:List (List (List V))),σ'=[some (.ref g),some (.int (far:Int)),some (.ref lf),some (.ref lw),v4]/\Same H H'/\H' lf=some (.lst (fs.map V.ref))/\H' lw=some (.lst (ws.map V.ref))/\fs.length<=far+1/\Paired (GridT H') ws Ws/\(∀ W∈Ws,Sq n W/\Lat n W/\Ext n B W)/\Stk n Ws/\m'=wt n Ws/\(∀ p∈fs,∃ C,GridT H' p C/\Cl n B C)/\∀ C,Cl n B C->(∃ p∈fs,GridT H' p C)\/∃ W∈Ws,Ext n W C,fun _ _ y=>y,?_⟩
   refine ⟨_,rfl,.inl ⟨rfl,_,SqL.of hw4⟩,lw,_,.ref lk,rfl,rfl,hw4,hlast,?_⟩
   rw [hdl]
   have k5:∀ a xs,H4 a=some (.tup xs)->(upd H4 lw (.lst (us.map V.ref))) a=some (.tup xs):=fun a xs y=>by rw [Zh (Yi y hw4 (by intro y; cases y))]; exact y
   have s5:Same H (upd H4 lw (.lst (us.map V.ref))):=s4.upd_new hlw0
   have hf5:(upd H4 lw (.lst (us.map V.ref))) lf=some (.lst (fs.map V.ref)):=by rw [Zh (Ne.symm hne)]; exact hf4
   have hw5:(upd H4 lw (.lst (us.map V.ref))) lw=some (.lst (us.map V.ref)):=Zd
   have GW5:=GridT.keepT k5 GW4
   have hPu5:Paired (GridT (upd H4 lw (.lst (us.map V.ref)))) us Us:=Paired.mapP hPu fun _ _ z=>GridT.keepT k5 z
   have hall5:∀ p∈fs,∃ C,GridT (upd H4 lw (.lst (us.map V.ref))) p C/\Cl n B C:=fun p hp=>let ⟨C,z,c⟩:=hall p hp; ⟨C,GridT.keepT k5 z,c⟩
   have hin5:∀ C,Cl n B C->(∃ p∈fs,GridT (upd H4 lw (.lst (us.map V.ref))) p C)\/∃ W'∈Us++[W],Ext n W' C:=fun C hC=>(hin C hC).imp (fun zz0=> by obtain ⟨p,hp,z⟩ := zz0; exact ⟨p,hp,GridT.keepT k5 z⟩) id
   generalize upd H4 lw (.lst (us.map V.ref))=H5 at k5 s5 hf5 hw5 GW5 hPu5 hall5 hin5
   have hU:∀ W'∈Us,Sq n W'/\Lat n W'/\Ext n B W':=fun W' h=>hWs W' (List.mem_append_left _ h)
   have hulen:us.length<=217:=by
    have:=ZiB (Zfz hst)
    have h2:=hPu5.length
    exact Om.b4 ‹_› ‹_› rfl
   refine ⟨_,rfl,lk,n,W,rfl,GW5.grid,SW,hn,fun hF H6 s6=>⟨_,rfl,Y5 ?_⟩,fun hE H6 s6=>⟨_,rfl,Yx ?_⟩⟩
   ·have hf6:=s6 _ _ hf5
    refine ⟨_,rfl,.inl ⟨rfl,_,SqL.of hf6⟩,_,rfl,lf,_,_,rfl,rfl,hf6,ZD (by rw [hfm]; exact Om.k8 h60 hfm hfar),?_⟩
    have k7:∀ a xs,H5 a=some (.tup xs)->(upd H6 lf (.lst (fs.map V.ref++[.ref lk]))) a=some (.tup xs):=fun a xs y=>by
     have y6:=s6 _ _ y
     rw [Zh (Yi y6 hf6 (by intro y; cases y))]
     exact y6
    refine ⟨wt n Us,?_,_,us,fs++[lk],Us,rfl,(s5.trans s6).upd_new hlf,by rw [Zd,List.map_append]; rfl,by rw [Zh hne]; exact s6 _ _ hw5,by rw [List.length_append,List.length_singleton]; exact Om.k7 hfm hfar,Paired.mapP hPu5 fun _ _ z=>GridT.keepT k7 z,hU,Zfz hst,rfl,fun p hp=>?_,fun C hC=>?_⟩
    ·have:=Zfx (n:=n) (Us:=Us) (l:=[]) (W:=W) (Nat.zero_le _) (fun x hx=>by cases hx)
     rw [List.append_nil] at this
     exact this
    ·rcases List.mem_append.mp hp with h | h
     ·obtain ⟨C,z,c⟩:=hall5 p h
      exact ⟨C,GridT.keepT k7 z,c⟩
     ·obtain rfl:=List.mem_singleton.mp h
      exact ⟨W,GridT.keepT k7 GW5,SW,LW,hF,EW⟩
    ·rcases hin5 C hC with ⟨p,hp,z⟩ | ⟨W',hW',z⟩
     ·exact .inl ⟨p,List.mem_append_left _ hp,GridT.keepT k7 z⟩
     ·rcases List.mem_append.mp hW' with h | h
      ·exact .inr ⟨W',h,z⟩
      ·obtain rfl:=List.mem_singleton.mp h
       obtain rfl:=Zh8 SW hC.1 hF z
       exact .inl ⟨lk,List.mem_append_right _ (List.mem_singleton.mpr rfl),GridT.keepT k7 GW5⟩
   ·have s56:=s5.trans s6
    have hw6:=s6 _ _ hw5
    refine ⟨_,rfl,.inl ⟨rfl,_,SqL.of hw6⟩,_,rfl,lk,n,W,rfl,GW5.same s6,SW,hn,hE,s56 _ _ hTb,fun l H7 ch ps s7 hl fc hl7 hP7=>?_⟩
    have hmem:=fc.mem
    have hx6:ch.xs.length<=6:=Nat.le_trans (Zip hmem) hn
    have hw7:=s7 _ _ hw6
    refine ⟨lw,l,_,_,rfl,rfl,hw7,hl7,?_,?_⟩
    ·rw [List.length_map,List.length_map,hP7.length,sizeLine_eq]
     omega
    have k8:∀ a xs,H7 a=some (.tup xs)->(upd H7 lw (.lst (us.map V.ref++ps.map V.ref))) a=some (.tup xs):=fun a xs y=>by rw [Zh (Yi y hw7 (by intro y; cases y))]; exact y
    have k58:∀ a xs,H5 a=some (.tup xs)->(upd H7 lw (.lst (us.map V.ref++ps.map V.ref))) a=some (.tup xs):=fun a xs y=>k8 _ _ (s7 _ _ (s6 _ _ y))
    have hkid:∀ x∈ch.xs.map (Zae W ch),emp n x<emp n W:=fun x hx=>by
     obtain ⟨t,ht,rfl⟩:=List.mem_map.mp hx
     exact (YV hmem ht).emp SW
    have hkl:(ch.xs.map (Zae W ch)).length<=6:=by rw [List.length_map]; exact hx6
    refine ⟨wt n (Us++ch.xs.map (Zae W ch)),Zfx hkl hkid,_,us++ps,fs,Us++ch.xs.map (Zae W ch),rfl,(s56.trans s7).upd_new hlw0,by rw [Zh (Ne.symm hne)]; exact s7 _ _ (s6 _ _ hf5),by rw [Zd,List.map_append],hfl,Paired.append (Paired.mapP hPu5 fun _ _ z=>GridT.keepT k58 z) (Zd4 (Paired.mapP hP7 fun _ _ z=>GridT.keepT k8 z)),fun W' hW'=>?_,Zhc hn hkl hst hkid,rfl,fun p hp=>?_,fun C hC=>?_⟩
    ·rcases List.mem_append.mp hW' with h | h
     ·exact hU W' h
     ·obtain ⟨t,ht,rfl⟩:=List.mem_map.mp h
      have ko:=YV hmem ht
      exact ⟨ko.sq SW,ko.lat SW LW,EW.trans (ZiL SW hmem ht)⟩
    ·obtain ⟨C,z,c⟩:=hall5 p hp
     exact ⟨C,GridT.keepT k58 z,c⟩
    ·rcases hin5 C hC with ⟨p,hp,z⟩ | ⟨W',hW',z⟩
     ·exact .inl ⟨p,hp,GridT.keepT k58 z⟩
     ·rcases List.mem_append.mp hW' with h | h
      ·exact .inr ⟨W',List.mem_append_left _ h,z⟩
      ·obtain rfl:=List.mem_singleton.mp h
       obtain ⟨t,ht,e⟩:=Ziq SW hmem ⟨hC.1,hC.2.1,hC.2.2.1,z⟩
       exact .inr ⟨_,List.mem_append_right _ (List.mem_map.mpr ⟨t,ht,rfl⟩),e⟩
end
end My
namespace My
open PySem L2
inductive Zez (Tb:Addr) (vs:List V) (H:Hp) (Q:VK):Prop where
 | mk (g:Addr) (n:Nat) (B:List (List V)) (_:vs=[.ref g]) (_:GridT H g B) (_:Sq n B) (_:Lat n B) (_:1<=n) (_:n<=6) (_:H Tb=some (Zat Zcy)) (_:(∀ H',Same H H'->ZbE n B->Q .non H')) (_:∀ (l:Addr) (qs:List Addr) H',Same H H'->H' l=some (.lst (qs.map V.ref))->qs.length<=60->(∀ q∈qs,∃ C,GridT H' q C/\Cl n B C)->(∀ C,Cl n B C->∃ q∈qs,GridT H' q C)->Q (.ref l) H'):Zez Tb vs H Q
noncomputable def Zdo (Tb:Addr):Sp:=fun vs H Q _=>Zez Tb vs H Q
theorem Zig {K:PySem.W.Frag} {H:Hp} {a c:Addr} {n:Nat} {C C':List (List V)} (x:GridT H a C) (y:GridT H c C') (f1:∀ r∈C,r.all ZK=true) (f2:∀ r∈C',r.all ZK=true):∃ b,EqD K H 2 (.ref a) (.ref c) b:=by
 obtain ⟨ps,h1,r1⟩:=x
 obtain ⟨qs,h2,r2⟩:=y
 refine ⟨_,EqD.tups (d:=1) (e:=fun j=>Jx (Zj C j) (Zj C' j)) (SqT.of h1) (SqT.of h2) (fun j u v hu hv=>?_)⟩
 rw [List.getElem?_map] at hu hv
 cases z1:ps[j]? with
 | none=>rw [z1] at hu; cases hu
 | some p =>
  cases z2:qs[j]? with
  | none=>rw [z2] at hv; cases hv
  | some q =>
   rw [z1] at hu
   rw [z2] at hv
   cases hu
   cases hv
   obtain ⟨row,b1,s1⟩:=Paired.getL r1 z1
   obtain ⟨row',b2,s2⟩:=Paired.getL r2 z2
   have e1:Zj C j=row:=by unfold Zj; rw [b1]; rfl
   have e2:Zj C' j=row':=by unfold Zj; rw [b2]; rfl
   rw [e1,e2]
   exact ZfY (SqT.of s1) (SqT.of s2) (f1 _ (List.mem_of_getElem? b1)) (f2 _ (List.mem_of_getElem? b2))
theorem sk {F:Addr->Bool->Prop} {ps:List Addr} (h:∀ p∈ps,∃ b,F p b):∃ e:Addr->Bool,∀ p∈ps,F p (e p):=by
 classical
 refine ⟨fun p=>if z:∃ b,F p b then z.choose else false,fun p hp=>?_⟩
 show F p (if z:∃ b,F p b then z.choose else false)
 rw [dif_pos (h p hp)]
 exact (h p hp).choose_spec
theorem Zdl {n:Nat} {C:List (List V)} (S:Sq n C):∀ r∈C,r.all ZK=true:=fun r hr=>by
 obtain ⟨i,hi,rfl⟩:=List.getElem_of_mem hr
 have hin:i<n:=by rw [<- S.len]; exact hi
 have:=Jq S hin
 have e:Zj C i=C[i]:=by unfold Zj; rw [List.getElem?_eq_getElem hi]; rfl
 rw [e] at this
 exact this
section
variable {P:Program} {w:World} {K:PySem.W.Frag} {mg:Str->Option Value} {base:Heap}
variable {Tb cM fC:Addr} {dC:FuncData}
theorem scClosL:Zt ["_law_begun_here","_law_found"] ["_law_begun_here"] (Zf J9):=⟨rfl,rfl,rfl,by decide +kernel,rfl,by decide +kernel,by decide +kernel⟩
structure CsF (P:Program) (w:World) (K:PySem.W.Frag) (mg:Str->Option Value) (base:Heap) (Tb cM fC:Addr) (dC:FuncData):Prop where
 mM:mg "TooMany" = some (.ref cM)
 eM:PySem.W.exmOne K (.ref cM) (.ref cM)=some true
 m:mg "closings" = some (.ref fC)
 k:PySem.W.keepIn K (.ref fC)=true
 b:Binds K dC ["begun","most"] []
 g:FnOk P w K mg base (CX2 P w) 6 fC dC ["begun","most"] (ZbW Tb cM)
theorem ZhN {f:Addr} {fd:FuncData} (F:Fun K "_law_closings" "_law_closings" J9 f fd) (Z:CsF P w K mg base Tb cM fC dC):FnOk P w K mg base CX0 7 f fd ["_law_begun_here"] (Zdo Tb):=by
 have GC:=Z.g
 refine F.ok scClosL (fun vs H Q E h=>?_) (fun cdv A outer s H vs Q E hr h=>?_)
 ·obtain ⟨_,_,_,rfl,_⟩:=h
  rfl
 ·obtain ⟨g,n,B,rfl,G,S,L,h1,hn,hTb,q0,q⟩:=h
  refine' ⟨_,Ze (Zq (i:=1) scClosL.nd rfl (Or.inl rfl) JL) (Ze (ZfH rfl rfl (fun _ _ _=>?t0) ?t1) (Zg (Zv (pv 1)))),?rd⟩
  case t0=>exact Zg (Zq (i:=1) scClosL.nd rfl (Or.inl rfl) (Zd3 GC hr rfl Z.m Z.k Z.b .nil ZhH (Za (pv 0) (Za Zi Zc))))
  case t1=>exact PH.two (ZhA rfl Z.mM (fun _=>Zg (Zq (i:=1) scClosL.nd rfl (Or.inl rfl) JL)) ZhB)
  case rd =>
   refine ⟨rfl,_,rfl,g,60,n,B,rfl,Nat.le_refl _,G,S,L,h1,hn,hTb,fun l qs H2 s2 hl hq hall hin=>⟨_,rfl,q l qs H2 s2 hl hq hall hin⟩,fun d H2 s2 hc=>⟨true,Z.eM,Y5 ⟨_,rfl,q0 H2 s2 hc⟩⟩⟩
end
end My
namespace L2
open PySem PySem.Spec PyProof.Rows
theorem Zj0 {P:Program} {w:World} {X:Cx}:Zam (CX2 P w) X E0:=fun _ _ _ _ _ _ _ h=>by
 obtain ⟨_,_,_,_,_,_,_,_,_,z⟩:=h
 exact z.elim
end L2
namespace My
open PySem L2
theorem Zh9 {n:Nat} {B:List (List V)} (S:Sq n B) {r c:Nat} (hr:r<n) (hc:c<n):Sub n (Jr B r c .non) B:=fun r' c' hr' hc'=>by
 rw [Yk S hr hc]
 split
 ·exact .inl rfl
 ·exact .inr rfl
theorem Zia {n:Nat} {B:List (List V)} (S:Sq n B) {r c:Nat} (hr:r<n) (hc:c<n) (h:ZbE n B):ZbE n (Jr B r c .non):=by
 obtain ⟨C,SC,LC,FC,EC⟩:=h
 refine ⟨C,SC,LC,FC,fun r' c' hr' hc'=>?_⟩
 rw [Yk S hr hc]
 split
 ·exact .inl rfl
 ·exact EC r' c' hr' hc'
inductive Zit (K:PySem.W.Frag) (Tb:Addr) (vs:List V) (H:Hp) (Q:VK):Prop where
 | mk (a:Addr) (ns:List Int) (_:vs=[.ref a]) (_:SqL K H a (ns.map V.int)) (_:ns.length<=63) (_:H Tb=some (Zat Zcy)) (_:∀ H',Q (.bl true) H'):Zit K Tb vs H Q
noncomputable def ZfC (K:PySem.W.Frag) (Tb:Addr):Sp:=fun vs H Q _=>Zit K Tb vs H Q
structure Defs (P:Program) (w:World) (K:PySem.W.Frag) (mg:Str->Option Value) (base:Heap) (Tb cM fC fBg fFi fTh fWo fGo fCs fCl fP:Addr) (dC dBg dFi dTh dWo dGo dCs dCl dP:FuncData):Prop where
 T:Blt mg
 C:Dfn K mg "_law_cell_at" ZaK ["_law_script","_law_k"] fC dC
 Bg:Dfn K mg "_law_begun" Zaa ["_law_script","_law_start"] fBg dBg
 Fi:Dfn K mg "_law_filled_up" Jd ["_law_begun_here","_law_cell"] fFi dFi
 Th:Dfn K mg "_law_there_is" J5 ["_law_begun_here","_law_at"] fTh dTh
 Wo:Dfn K mg "_law_word" Zbm ["_law_begun_here"] fWo dWo
 Go:Dfn K mg "_law_gone" JI ["_law_begun_here","_law_most","_law_looked"] fGo dGo
 Cs:Dfn K mg "_law_closings" J9 ["_law_begun_here"] fCs dCs
 Pu:Dfn K mg "_law_put" JA ["_law_begun_here","_law_row","_law_column","_law_thing"] fP dP
 Cl:ClF P w K mg base Tb cM fCl dCl
 gBg:FnOk P w K mg base CX0 11 fBg dBg ["_law_script","_law_start"] (Zdp K)
 gFi:FnOk P w K mg base CX0 11 fFi dFi ["_law_begun_here","_law_cell"] ZbV
 gTh:FnOk P w K mg base CX0 39 fTh dTh ["_law_begun_here","_law_at"] (Zdm 37)
 gWo:FnOk P w K mg base CX0 45 fWo dWo ["_law_begun_here"] (Zhe Tb)
 gGo:FnOk P w K mg base CX0 41 fGo dGo ["_law_begun_here","_law_most","_law_looked"] (Zdn 37)
 gCs:FnOk P w K mg base CX0 7 fCs dCs ["_law_begun_here"] (Zdo Tb)
section
variable {P:Program} {w:World} {K:PySem.W.Frag} {mg:Str->Option Value} {base:Heap} {Tb cM fC fBg fFi fTh fWo fGo fCs fCl fP:Addr} {dC dBg dFi dTh dWo dGo dCs dCl dP:FuncData}
theorem scLaw:Zt ["_law_script","_law_begun_here","_law_size","_law_due","_law_word_here","_law_some","_law_k","_law_less"] ["_law_script"] (Zf ZbZ):=⟨rfl,rfl,rfl,by decide +kernel,rfl,by decide +kernel,by decide +kernel⟩
set_option maxHeartbeats 1600000 in
theorem Zj4 {f:Addr} {fd:FuncData} (F:Fun K "law" "law" ZbZ f fd) (Z:Defs P w K mg base Tb cM fC fBg fFi fTh fWo fGo fCs fCl fP dC dBg dFi dTh dWo dGo dCs dCl dP):FnOk P w K mg base CX0 46 f fd ["_law_script"] (ZfC K Tb):=by
 have T:=Z.T
 have GC:FnOk P w K mg base CX0 45 fC dC ["_law_script","_law_k"] (Ze4 K):=(ZfN Z.C.F T).mono (by decide)
 have GB:FnOk P w K mg base CX0 45 fBg dBg ["_law_script","_law_start"] (Zdp K):=Z.gBg.mono (by decide)
 have GF:FnOk P w K mg base CX0 45 fFi dFi ["_law_begun_here","_law_cell"] ZbV:=Z.gFi.mono (by decide)
 have GT:FnOk P w K mg base CX0 45 fTh dTh ["_law_begun_here","_law_at"] (Zdm 37):=Z.gTh.mono (by decide)
 have GW:=Z.gWo
 have GG:FnOk P w K mg base CX0 45 fGo dGo ["_law_begun_here","_law_most","_law_looked"] (Zdn 37):=Z.gGo.mono (by decide)
 have GS:FnOk P w K mg base CX0 45 fCs dCs ["_law_begun_here"] (Zdo Tb):=Z.gCs.mono (by decide)
 have GP:FnOk P w K mg base CX0 45 fP dP ["_law_begun_here","_law_row","_law_column","_law_thing"] Jw:=(ZaE Z.Pu.F T).mono (by decide)
 have GL:FnOk P w K mg base (CX2 P w) 45 fCl dCl ["begun","most"] (ZbX Tb cM):=Z.Cl.g.mono (by decide)
 refine F.ok scLaw (fun vs H Q E h=>?_) (fun cdv A outer s H vs Q E hr h=>?_)
 ·obtain ⟨_,_,rfl,_⟩:=h
  rfl
 ·obtain ⟨a,ns,rfl,hS,_,hTb,k⟩:=h
  have hu:((A.deeper (PyProof.Rows.envOfC "law" (Zf ZbZ) s.heap.objs.size f cdv))).units+1+2<cLine:=by have:=hr.un; omega
  have hu0:((A.deeper (PyProof.Rows.envOfC "law" (Zf ZbZ) s.heap.objs.size f cdv))).units<cLine:=by exact Om.k6 hu
  refine' ⟨_,Ze ?s0 (Ze ?s1 (Ze ?s2 (Ze ?s3 (Ze (ZZ ?c0 (Zg (Zv ?r0)) ZE) (Ze (ZZ ?c1 (Zg (Zv ZcQ)) ZE) (Ze ?s4 (Ze (ZZ ?c2 (Zg (Zv (pv 3))) ZE) (Ze (ZZ (PW.pt (Zjv ?c3 (Zhx (PW.pt (Zac ?c4 (Ju ?c5)))))) (Zg (Zv ZcQ)) ZE) (Ze ?s5 (Ze ?s6 (Zg (Zv ?r1)))))))))))),?rd⟩
  case s0=>exact Zq (i:=1) scLaw.nd rfl (Or.inl rfl) (Zk GF hr rfl Z.Fi.m Z.Fi.F.kp Z.Fi.b .nil ZA (Za (Zk GB hr rfl Z.Bg.m Z.Bg.F.kp Z.Bg.b .nil ZA (Za (pv 0) (Za Zi Zc))) (Za (Zl ZM (Zk GC hr rfl Z.C.m Z.C.F.kp Z.C.b .nil ZA (Za (pv 0) (Za Zi Zc))) (Zl Zj1 Zi Zi)) Zc)))
  case s1=>exact Zq (i:=2) scLaw.nd rfl (Or.inl rfl) (Zw (Zu K) rfl T.len PySem.boot_len (Za (pv 1) Zc))
  case s2=>exact Zq (i:=3) scLaw.nd rfl (Or.inl rfl) (Zk GT hr rfl Z.Th.m Z.Th.F.kp Z.Th.b .nil ZA (Za (pv 1) (Za Zi Zc)))
  case s3=>exact Zq (i:=4) scLaw.nd rfl (Or.inl rfl) (Zk GW hr rfl Z.Wo.m Z.Wo.F.kp Z.Wo.b .nil ZA (Za (pv 1) Zc))
  case c0=>exact Zx JD (pv 4) Z0 (ZN _)
  case r0=>exact ZjY (Zaf (Zk GG hr rfl Z.Go.m Z.Go.F.kp Z.Go.b .nil ZA (Za (pv 1) (Za Zi (Za (Yv Zc) Zc)))))
  case c1=>exact Zx Zjw (pv 4) (Zz (Zce K) (Yv (Za Z0 (Za Z0 Zc))) (JB ZgZ rfl T.int Zkh (Za (pv 3) Zc)) (fun _ _=>rfl)) (ZN _)
  case s4=>exact Zq (i:=5) scLaw.nd rfl (Or.inl rfl) (Zk GS hr rfl Z.Cs.m Z.Cs.F.kp Z.Cs.b .nil ZA (Za (pv 1) Zc))
  case c2=>exact Jm (Zaf (pv 5))
  case c3=>exact Zx Zjw (Zdx (Zj2 hu0 K) (pv 5) (Yv Zc) (ZN _)) (pv 3) (ZN _)
  case c4=>exact Zdt (pv 3)
  case c5=>exact Zx (Zgx (d:=2) hu K) (Zz (ZT K) (Zk GL hr rfl Z.Cl.m Z.Cl.k Z.Cl.b .nil Zj0 (Za (pv 1) (Za Zi Zc))) Zi (fun _ _=>rfl)) (pv 5) rfl
  case s5=>exact Zq (i:=6) scLaw.nd rfl (Or.inl rfl) (Zl ZM (Zk GC hr rfl Z.C.m Z.C.F.kp Z.C.b .nil ZA (Za (pv 0) (Za Zi Zc))) (Zl Yo (pv 2) (pv 2)))
  case s6=>exact Zq (i:=7) scLaw.nd rfl (Or.inl rfl) (Zk GP hr rfl Z.Pu.m Z.Pu.F.kp Z.Pu.b .nil ZA (Za (pv 1) (Za (Zl ZS (pv 6) (pv 2)) (Za (Zl ZM (pv 6) (pv 2)) (Za JL Zc)))))
  case r1=>exact ZkN (ZjX (pv 3)) (ZjW (Zdx (ZdA K) (Zk GW hr rfl Z.Wo.m Z.Wo.F.kp Z.Wo.b .nil ZA (Za (pv 7) Zc)) (Yv (Za Z0 (Za Z0 Zc))) rfl))
  case rd =>
   refine ⟨_,rfl,a,ns,0,rfl,hS,fun g0 H1 n B0 s1 h1n hn G0 S0 L0=>?_⟩
   refine ⟨_,rfl,a,ns,4,rfl,s1.seq hS,fun z=>⟨_,_,rfl,rfl,⟨by decide,by decide,by decide⟩,_,_,rfl,rfl,(by show (0:Int)<10 ^ (30:Int).toNat; decide),g0,_,n,B0,rfl,G0,S0,L0,h1n,hn,fun g H2 B s2 G S L=>?_⟩⟩
   obtain ⟨gs,hg,hP⟩:=id G
   have hxl:(gs.map V.ref).length=n:=by rw [List.length_map,hP.length,S.len]
   have s02:=s1.trans s2
   have hnn:(n:Int)*(n:Int)=((n*n:Nat):Int):=by rw [Int.natCast_mul]
   have hnn36:n*n<=36:=Nat.mul_le_mul hn hn
   have hnn1:1<=n*n:=Nat.mul_le_mul h1n h1n
   refine ⟨_,rfl,g,_,rfl,.inr (SqT.of hg),?_⟩
   rw [hxl]
   refine ⟨_,rfl,g,n,0,B,rfl,G,S,L,h1n,hn,Nat.zero_le _,by exact Om.k5 hnn36 hnn1,fun i hi=>absurd hi (Nat.not_lt_zero _),fun due H3 s3 hdue=>?_⟩
   have s03:=s02.trans s3
   refine ⟨_,rfl,g,n,B,rfl,G.same s3,S,L,hn,s03 _ _ hTb,fun H4 s4 go=>?_,fun b0 c' H4 s4 go hb0=>?_⟩
   ·-- many
    refine ⟨_,rfl,rfl,_,rfl,Y5 ⟨_,rfl,Nat.zero_le _,fun lk hlk=>?_⟩⟩
    have s5:Same H4 (upd H4 lk (.lst [])):=Same.new hlk
    refine ⟨g,lk,400,n,B,[],rfl,(G.same s3).same (s4.trans s5),S,hn,ZdL hn,Zd,Nat.zero_le _,by decide,fun H5 _ _=>k H5,fun p v H5 ys b1 _ _ _ go2 _=>?_⟩
    exact absurd (goR.uniq 37 B 0 _ _ go go2) (by intro z; cases z)
   have hbd:b0=due:=by
    cases b0 with
    | true=>exact (hdue.mpr (hb0.mp rfl)).symm
    | false =>
     cases due with
     | false=>rfl
     | true=>exact absurd (hb0.mpr (hdue.mp rfl)) (by decide)
   subst hbd
   have hG4:=(G.same s3).same s4
   have s04:=s03.trans s4
   have wne:∀ b:Bool,(V.str (JY b)=V.str (Str.ofString "many"))->False:=fun b z=>by
    injection z with z
    cases b
    ·exact absurd z (by decide)
    ·exact absurd z (by decide)
   refine ⟨_,rfl,rfl,_,rfl,?_⟩
   rw [decide_eq_false (wne b0)]
   refine Yx ⟨_,rfl,(show 2<=sizeLine from Zs (by decide)),fun lc hlc=>?_⟩
   have s5:Same H4 (upd H4 lc (.lst [.str (Str.ofString "cases"),.str (Str.ofString "closed")])):=Same.new hlc
   refine ⟨_,rfl,.inr ⟨b0,rfl,lc,_,(if b0 then 1 else 0),.str (JY b0),rfl,rfl,SqL.of Zd,(by cases b0 <;> rfl),rfl,_,rfl,?_⟩⟩
   rw [decide_eq_true (rfl:V.str (JY b0)=V.str (JY b0))]
   refine Yx ?_
   have s05:=s04.trans s5
   have G5:=hG4.same s5
   refine ⟨_,rfl,g,n,B,rfl,G5,S,L,h1n,hn,s05 _ _ hTb,fun H6 s6 hc=>?_,fun l qs H6 s6 hl hq60 hall hin=>?_⟩
   ·-- too many closings
    refine ⟨_,rfl,_,rfl,Y5 ⟨_,rfl,?_⟩⟩
    rw [hb0.mpr hc]
    exact k _
   have s06:=s05.trans s6
   have G6:=G5.same s6
   refine ⟨_,rfl,_,rfl,Yx ⟨_,rfl,Nat.zero_le _,fun le hle=>?_⟩⟩
   have s7:Same H6 (upd H6 le (.lst [])):=Same.new hle
   have hl7:=s7 _ _ hl
   have hqm:(qs.map V.ref).length=qs.length:=List.length_map _
   have hn0:(0:Int)<(n:Int):=by exact Om.c3 ‹_›
   have hn1:(n:Int)<1073741824:=by exact Om.k4 h1n hn hxl
   have mulOk:(-(2 ^ 64:Int)<(n:Int)/\(n:Int)<2 ^ 64):=⟨by exact Om.k3 h1n hn hxl,by exact Om.k2 h1n hn hxl⟩
   have s07:=s06.trans s7
   have kk:∀ z:Int,∃ m:Nat,z % ((n:Int)*(n:Int))=(m:Int)/\m<n*n:=fun z=>by
    rw [hnn]
    have e1:=Int.emod_nonneg z (show ((n*n:Nat):Int)≠0 by exact Om.k1 hnn36 hnn1)
    have e2:=Int.emod_lt_of_pos z (show (0:Int)<((n*n:Nat):Int) by exact Om.c3 ‹_›)
    exact ⟨(z % ((n*n:Nat):Int)).toNat,by exact Om.z1 ‹_›,by exact Om.k0 hnn36 hnn1 e2⟩
   have hmp:(0:Int)<(n:Int)*(n:Int):=by rw [hnn]; exact Om.c3 ‹_›
   cases b0 with
   | false =>
    have hno:¬ ZbE n B:=fun z=>absurd (hb0.mpr z) (by decide)
    have hq0:qs=[]:=by
     cases qs with
     | nil=>rfl
     | cons p l =>
      obtain ⟨C,_,c1,c2,c3,c4⟩:=hall p List.mem_cons_self
      exact absurd ⟨C,c1,c2,c3,c4⟩ hno
    subst hq0
    refine ⟨l,le,_,_,rfl,rfl,SqL.of hl7,SqL.of Zd,.inl ⟨rfl,rfl⟩,_,rfl,rfl,_,rfl,Yx ⟨_,rfl,_,rfl,Yx ?_⟩⟩
    refine ⟨_,rfl,a,ns,3,rfl,s07.seq hS,fun z=>⟨_,rfl,_,rfl,_,_,rfl,rfl,.inl mulOk,_,_,rfl,rfl,hmp,?_⟩⟩
    obtain ⟨m,hm,hml⟩:=kk z
    obtain ⟨hr1,hc1⟩:=JO hml
    show ZaU 6 (V.int (z % ((n:Int)*(n:Int)))) _ _ _
    rw [hm]
    refine ⟨_,rfl,_,rfl,_,rfl,_,_,rfl,rfl,⟨hn0,hn1⟩,_,rfl,_,rfl,_,_,rfl,rfl,hn0,g,n,B,m / n,m % n,.non,?_,G6.same s7,S,hn,hr1,hc1,fun p H8 s8 Gp=>?_⟩
    ·show [V.ref g,V.int ((m:Int) / (n:Int)),V.int ((m:Int) % (n:Int)),V.non]++[]=_
     rw [Int.natCast_ediv,Int.natCast_emod]
     rfl
    exact ⟨_,rfl,_,rfl,_,rfl,Y5 (k _)⟩
   | true =>
    have hhas:ZbE n B:=hb0.mp rfl
    obtain ⟨C0,hC0⟩:=id hhas
    obtain ⟨p0,hp0,_⟩:=hin C0 hC0
    have hqne:(qs.map V.ref).length≠([]:List V).length:=fun z=>by
     rw [hqm] at z
     rw [List.eq_nil_of_length_eq_zero z] at hp0
     cases hp0
    refine ⟨l,le,_,_,rfl,rfl,SqL.of hl7,SqL.of Zd,.inr hqne,_,rfl,?_⟩
    have ef:Jx (qs.map V.ref) []=false:=by
     unfold Jx
     rw [decide_eq_false hqne,Bool.false_and]
    rw [ef]
    refine ⟨rfl,_,rfl,Yx ⟨_,rfl,_,rfl,Y5 ⟨_,rfl,g,400,n,B,rfl,G6.same s7,S,L,hn,s07 _ _ hTb,fun p H8 c1 b1 s8 go1 told=>?_,fun d H8 _ _ go1=>absurd (goR.uniq 37 B 0 _ _ go go1) (by intro z; cases z)⟩⟩⟩
    have hb1:=(told.has S).mpr hhas
    rcases told with ⟨_,q1,C,hp,GQ,SC,LC,FC,EC⟩ | ⟨e,_⟩
    rotate_left
    ·exact absurd (e.symm.trans hb1) (by decide)
    obtain ⟨p1,hp1,Gp1⟩:=hin C ⟨SC,LC,FC,EC⟩
    have s78:=s7.trans s8
    obtain ⟨e,he⟩:=sk (F:=fun p b=>EqD K H8 2 (.ref p) (.ref q1) b/\(p=p1->b=true)) (ps:=qs) (fun p hpq=>by
     by_cases hpp:p=p1
     ·subst hpp
      exact ⟨true,Zih (GridT.grid (Gp1.same s78)) GQ.grid (Zdl SC),fun _=>rfl⟩
     ·obtain ⟨C',GC',SC',_⟩:=hall p hpq
      obtain ⟨b,hb⟩:=Zig (K:=K) (n:=n) (GC'.same s78) GQ (Zdl SC') (Zdl SC)
      exact ⟨b,hb,fun z=>absurd z hpp⟩)
    refine ⟨p,_,(1:Int),.ref q1,rfl,rfl,SqT.of hp,rfl,_,rfl,l,qs,e,rfl,SqL.of (s8 _ _ hl7),fun p hp=>(he p hp).1,_,rfl,?_⟩
    have hany:qs.any e=true:=List.any_eq_true.mpr ⟨p1,hp1,(he p1 hp1).2 rfl⟩
    rw [hany]
    refine Yx ?_
    have s08:=s07.trans s8
    refine ⟨_,rfl,a,ns,3,rfl,s08.seq hS,fun z=>⟨_,rfl,_,rfl,_,_,rfl,rfl,.inl mulOk,_,_,rfl,rfl,hmp,?_⟩⟩
    obtain ⟨m,hm,hml⟩:=kk z
    obtain ⟨hr1,hc1⟩:=JO hml
    show ZaU 6 (V.int (z % ((n:Int)*(n:Int)))) _ _ _
    rw [hm]
    refine ⟨_,rfl,_,rfl,_,rfl,_,_,rfl,rfl,⟨hn0,hn1⟩,_,rfl,_,rfl,_,_,rfl,rfl,hn0,g,n,B,m / n,m % n,.non,?_,(G6.same s7).same s8,S,hn,hr1,hc1,fun p H9 s9 Gp=>?_⟩
    ·show [V.ref g,V.int ((m:Int) / (n:Int)),V.int ((m:Int) % (n:Int)),V.non]++[]=_
     rw [Int.natCast_ediv,Int.natCast_emod]
     rfl
    have s09:=s08.trans s9
    have two:2<=sizeLine:=Zs (by decide)
    refine ⟨_,rfl,_,rfl,_,rfl,Yx ⟨_,rfl,p,n,_,rfl,Gp,Zap S hr1 hc1 (.inl rfl),(Zh9 S hr1 hc1).lat L,hn,s09 _ _ hTb,fun H10 s10 _=>⟨two,fun lq hlq=>⟨lq,_,rfl,.inl (SqL.of Zd),rfl,rfl,k _⟩⟩,fun b2 c2 H10 s10 _ hb2=>⟨two,fun lq hlq=>?_⟩⟩⟩
    have eb:b2=true:=hb2.mpr (Zia S hr1 hc1 hhas)
    subst eb
    exact ⟨lq,_,rfl,.inl (SqL.of Zd),rfl,rfl,k _⟩
end
end My
namespace My
open PySem L2
theorem exL {α:Type} {us:List α} {k:Nat} (h:us.length=k+1):∃ a t,us=a::t/\t.length=k:=by
 cases us with
 | nil=>cases h
 | cons a t=>exact ⟨a,t,rfl,Nat.succ.inj h⟩
theorem ZcG {K:PySem.W.Frag} {x qual:Str} {st:Stmt} {f:Addr} {fd:FuncData} {ps:List Str} (hl:ps.length=1) (F:Fun K x qual st f fd) (h:∀ (kV doc pm:Value) (an:Option Addr) (cdv ct:Value) (a0:Value),bindArgs (PySem.W.fnOf x qual (Zr st) (Zo st) (Zf st) .none kV doc pm an cdv ct) ⟨[a0],[]⟩=pure (ps.zip [a0])):Binds K fd ps [] :=
 F.binds fun kV doc pm an cdv ct us hu=>by obtain ⟨a0,us,rfl,h0⟩:=exL (hu.trans hl); obtain rfl:=List.eq_nil_of_length_eq_zero h0; exact h kV doc pm an cdv ct a0
theorem ZdQ {K:PySem.W.Frag} {x qual:Str} {st:Stmt} {f:Addr} {fd:FuncData} {ps:List Str} (hl:ps.length=2) (F:Fun K x qual st f fd) (h:∀ (kV doc pm:Value) (an:Option Addr) (cdv ct:Value) (a0 a1:Value),bindArgs (PySem.W.fnOf x qual (Zr st) (Zo st) (Zf st) .none kV doc pm an cdv ct) ⟨[a0,a1],[]⟩=pure (ps.zip [a0,a1])):Binds K fd ps [] :=
 F.binds fun kV doc pm an cdv ct us hu=>by obtain ⟨a0,us,rfl,h0⟩:=exL (hu.trans hl); obtain ⟨a1,us,rfl,h1⟩:=exL h0; obtain rfl:=List.eq_nil_of_length_eq_zero h1; exact h kV doc pm an cdv ct a0 a1
theorem ZdP {K:PySem.W.Frag} {x qual:Str} {st:Stmt} {f:Addr} {fd:FuncData} {ps:List Str} (hl:ps.length=3) (F:Fun K x qual st f fd) (h:∀ (kV doc pm:Value) (an:Option Addr) (cdv ct:Value) (a0 a1 a2:Value),bindArgs (PySem.W.fnOf x qual (Zr st) (Zo st) (Zf st) .none kV doc pm an cdv ct) ⟨[a0,a1,a2],[]⟩=pure (ps.zip [a0,a1,a2])):Binds K fd ps [] :=
 F.binds fun kV doc pm an cdv ct us hu=>by obtain ⟨a0,us,rfl,h0⟩:=exL (hu.trans hl); obtain ⟨a1,us,rfl,h1⟩:=exL h0; obtain ⟨a2,us,rfl,h2⟩:=exL h1; obtain rfl:=List.eq_nil_of_length_eq_zero h2; exact h kV doc pm an cdv ct a0 a1 a2
theorem Zkj {K:PySem.W.Frag} {x qual:Str} {st:Stmt} {f:Addr} {fd:FuncData} {ps:List Str} (hl:ps.length=4) (F:Fun K x qual st f fd) (h:∀ (kV doc pm:Value) (an:Option Addr) (cdv ct:Value) (a0 a1 a2 a3:Value),bindArgs (PySem.W.fnOf x qual (Zr st) (Zo st) (Zf st) .none kV doc pm an cdv ct) ⟨[a0,a1,a2,a3],[]⟩=pure (ps.zip [a0,a1,a2,a3])):Binds K fd ps [] :=
 F.binds fun kV doc pm an cdv ct us hu=>by obtain ⟨a0,us,rfl,h0⟩:=exL (hu.trans hl); obtain ⟨a1,us,rfl,h1⟩:=exL h0; obtain ⟨a2,us,rfl,h2⟩:=exL h1; obtain ⟨a3,us,rfl,h3⟩:=exL h2; obtain rfl:=List.eq_nil_of_length_eq_zero h3; exact h kV doc pm an cdv ct a0 a1 a2 a3
set_option maxHeartbeats 2000000 in
theorem all_mk {cTab Tb:Addr} {ocTab:Value} {odTab:Option Addr} {slTab:Array (Option Value)} {vsTab:Array Value}
  {l:PySem.W.OpenLaw} {w:World} {K:PySem.W.Frag} {h:Heap} {mg:Str->Option Value} {fa fHo fLe fWe fCl fCs fLa fPl fCe fLi fAl fFi fWc fGo fEa fC fD fO fS fR fP fE fT fBg fFu fCh fFL fWi fGl fTh fCo fWo fLaw:Addr} {gM gL tC tD fQm fQi fQk fQz fQc:Addr} {odDf odDg odQm anQm odQi anQi odQk anQk odQz anQz odQc anQc:Option Addr} {ocDf ocDg:Value} {uDf uDg:Value} {nDf nDg:Nat} {slDf slDg slQm slQi slQk slQz slQc:Array (Option Value)} {ocQm kVQm dcQm pmQm cdQm ctQm ocQi kVQi dcQi pmQi cdQi ctQi ocQk kVQk dcQk pmQk cdQk ctQk ocQz kVQz dcQz pmQz cdQz ctQz ocQc kVQc dcQc pmQc cdQc ctQc:Value} (X:K.In h) (G:h.Ns mainGlobals mg) (hfa:mg "law" = some (.ref fa))
  {odHo anHo odLe anLe odWe anWe odCl anCl odCs anCs odLa anLa odPl anPl odCe anCe odLi anLi odAl anAl odFi anFi odWc anWc odGo anGo odEa anEa odC anC odD anD odO anO odS anS odR anR odP anP odE anE odT anT odBg anBg odFu anFu odCh anCh odFL anFL odWi anWi odGl anGl odTh anTh odCo anCo odWo anWo odLaw anLaw:Option Addr} {slHo slLe slWe slCl slCs slLa slPl slCe slLi slAl slFi slWc slGo slEa slC slD slO slS slR slP slE slT slBg slFu slCh slFL slWi slGl slTh slCo slWo slLaw:Array (Option Value)}
  {ocHo kVHo dcHo pmHo cdHo ctHo ocLe kVLe dcLe pmLe cdLe ctLe ocWe kVWe dcWe pmWe cdWe ctWe ocCl kVCl dcCl pmCl cdCl ctCl ocCs kVCs dcCs pmCs cdCs ctCs ocLa kVLa dcLa pmLa cdLa ctLa ocPl kVPl dcPl pmPl cdPl ctPl ocCe kVCe dcCe pmCe cdCe ctCe ocLi kVLi dcLi pmLi cdLi ctLi ocAl kVAl dcAl pmAl cdAl ctAl ocFi kVFi dcFi pmFi cdFi ctFi ocWc kVWc dcWc pmWc cdWc ctWc ocGo kVGo dcGo pmGo cdGo ctGo ocEa kVEa dcEa pmEa cdEa ctEa ocC kVC dcC pmC cdC ctC ocD kVD dcD pmD cdD ctD ocO kVO dcO pmO cdO ctO ocS kVS dcS pmS cdS ctS ocR kVR dcR pmR cdR ctR ocP kVP dcP pmP cdP ctP ocE kVE dcE pmE cdE ctE ocT kVT dcT pmT cdT ctT ocBg kVBg dcBg pmBg cdBg ctBg ocFu kVFu dcFu pmFu cdFu ctFu ocCh kVCh dcCh pmCh cdCh ctCh ocFL kVFL dcFL pmFL cdFL ctFL ocWi kVWi dcWi pmWi cdWi ctWi ocGl kVGl dcGl pmGl cdGl ctGl ocTh kVTh dcTh pmTh cdTh ctTh ocCo kVCo dcCo pmCo cdCo ctCo ocWo kVWo dcWo pmWo cdWo ctWo ocLaw kVLaw dcLaw pmLaw cdLaw ctLaw:Value}
  (aHo:PySem.W.nsIn K mainGlobals "is_whole" = some (some (.ref fHo))) (lHo:K.lookup fHo=some ⟨ocHo,odHo,.func (PySem.W.fnOf "is_whole" "is_whole" (Zr YY) (Zo YY) (Zf YY) .none kVHo dcHo pmHo anHo cdHo ctHo),slHo⟩) (cHo:PySem.W.codeIn K cdHo "is_whole" = true) (kHo:PySem.W.keepIn K (.ref fHo)=true)
  (aLe:PySem.W.nsIn K mainGlobals "left" = some (some (.ref fLe))) (lLe:K.lookup fLe=some ⟨ocLe,odLe,.func (PySem.W.fnOf "left" "left" (Zr ZaJ) (Zo ZaJ) (Zf ZaJ) .none kVLe dcLe pmLe anLe cdLe ctLe),slLe⟩) (cLe:PySem.W.codeIn K cdLe "left" = true) (kLe:PySem.W.keepIn K (.ref fLe)=true)
  (aWe:PySem.W.nsIn K mainGlobals "with_entry" = some (some (.ref fWe))) (lWe:K.lookup fWe=some ⟨ocWe,odWe,.func (PySem.W.fnOf "with_entry" "with_entry" (Zr J4) (Zo J4) (Zf J4) .none kVWe dcWe pmWe anWe cdWe ctWe),slWe⟩) (cWe:PySem.W.codeIn K cdWe "with_entry" = true) (kWe:PySem.W.keepIn K (.ref fWe)=true)
  (aCl:PySem.W.nsIn K mainGlobals "column_of" = some (some (.ref fCl))) (lCl:K.lookup fCl=some ⟨ocCl,odCl,.func (PySem.W.fnOf "column_of" "column_of" (Zr Je) (Zo Je) (Zf Je) .none kVCl dcCl pmCl anCl cdCl ctCl),slCl⟩) (cCl:PySem.W.codeIn K cdCl "column_of" = true) (kCl:PySem.W.keepIn K (.ref fCl)=true)
  (aCs:PySem.W.nsIn K mainGlobals "columns_of" = some (some (.ref fCs))) (lCs:K.lookup fCs=some ⟨ocCs,odCs,.func (PySem.W.fnOf "columns_of" "columns_of" (Zr Y0) (Zo Y0) (Zf Y0) .none kVCs dcCs pmCs anCs cdCs ctCs),slCs⟩) (cCs:PySem.W.codeIn K cdCs "columns_of" = true) (kCs:PySem.W.keepIn K (.ref fCs)=true)
  (aLa:PySem.W.nsIn K mainGlobals "lacked" = some (some (.ref fLa))) (lLa:K.lookup fLa=some ⟨ocLa,odLa,.func (PySem.W.fnOf "lacked" "lacked" (Zr Jc) (Zo Jc) (Zf Jc) .none kVLa dcLa pmLa anLa cdLa ctLa),slLa⟩) (cLa:PySem.W.codeIn K cdLa "lacked" = true) (kLa:PySem.W.keepIn K (.ref fLa)=true)
  (aPl:PySem.W.nsIn K mainGlobals "places_left" = some (some (.ref fPl))) (lPl:K.lookup fPl=some ⟨ocPl,odPl,.func (PySem.W.fnOf "places_left" "places_left" (Zr Jb) (Zo Jb) (Zf Jb) .none kVPl dcPl pmPl anPl cdPl ctPl),slPl⟩) (cPl:PySem.W.codeIn K cdPl "places_left" = true) (kPl:PySem.W.keepIn K (.ref fPl)=true)
  (aCe:PySem.W.nsIn K mainGlobals "cell_choices" = some (some (.ref fCe))) (lCe:K.lookup fCe=some ⟨ocCe,odCe,.func (PySem.W.fnOf "cell_choices" "cell_choices" (Zr Z7) (Zo Z7) (Zf Z7) .none kVCe dcCe pmCe anCe cdCe ctCe),slCe⟩) (cCe:PySem.W.codeIn K cdCe "cell_choices" = true) (kCe:PySem.W.keepIn K (.ref fCe)=true)
  (aLi:PySem.W.nsIn K mainGlobals "line_choices" = some (some (.ref fLi))) (lLi:K.lookup fLi=some ⟨ocLi,odLi,.func (PySem.W.fnOf "line_choices" "line_choices" (Zr Z6) (Zo Z6) (Zf Z6) .none kVLi dcLi pmLi anLi cdLi ctLi),slLi⟩) (cLi:PySem.W.codeIn K cdLi "line_choices" = true) (kLi:PySem.W.keepIn K (.ref fLi)=true)
  (aAl:PySem.W.nsIn K mainGlobals "all_choices" = some (some (.ref fAl))) (lAl:K.lookup fAl=some ⟨ocAl,odAl,.func (PySem.W.fnOf "all_choices" "all_choices" (Zr Ym) (Zo Ym) (Zf Ym) .none kVAl dcAl pmAl anAl cdAl ctAl),slAl⟩) (cAl:PySem.W.codeIn K cdAl "all_choices" = true) (kAl:PySem.W.keepIn K (.ref fAl)=true)
  (aFi:PySem.W.nsIn K mainGlobals "first_choice" = some (some (.ref fFi))) (lFi:K.lookup fFi=some ⟨ocFi,odFi,.func (PySem.W.fnOf "first_choice" "first_choice" (Zr ZY) (Zo ZY) (Zf ZY) .none kVFi dcFi pmFi anFi cdFi ctFi),slFi⟩) (cFi:PySem.W.codeIn K cdFi "first_choice" = true) (kFi:PySem.W.keepIn K (.ref fFi)=true)
  (aWc:PySem.W.nsIn K mainGlobals "with_chosen" = some (some (.ref fWc))) (lWc:K.lookup fWc=some ⟨ocWc,odWc,.func (PySem.W.fnOf "with_chosen" "with_chosen" (Zr JG) (Zo JG) (Zf JG) .none kVWc dcWc pmWc anWc cdWc ctWc),slWc⟩) (cWc:PySem.W.codeIn K cdWc "with_chosen" = true) (kWc:PySem.W.keepIn K (.ref fWc)=true)
  (aGo:PySem.W.nsIn K mainGlobals "gone_through" = some (some (.ref fGo))) (lGo:K.lookup fGo=some ⟨ocGo,odGo,.func (PySem.W.fnOf "gone_through" "gone_through" (Zr Zbo) (Zo Zbo) (Zf Zbo) .none kVGo dcGo pmGo anGo cdGo ctGo),slGo⟩) (cGo:PySem.W.codeIn K cdGo "gone_through" = true) (kGo:PySem.W.keepIn K (.ref fGo)=true)
  (aEa:PySem.W.nsIn K mainGlobals "with_each_chosen" = some (some (.ref fEa))) (lEa:K.lookup fEa=some ⟨ocEa,odEa,.func (PySem.W.fnOf "with_each_chosen" "with_each_chosen" (Zr Zbp) (Zo Zbp) (Zf Zbp) .none kVEa dcEa pmEa anEa cdEa ctEa),slEa⟩) (cEa:PySem.W.codeIn K cdEa "with_each_chosen" = true) (kEa:PySem.W.keepIn K (.ref fEa)=true)
  (aC:PySem.W.nsIn K mainGlobals "_law_cell_at" = some (some (.ref fC))) (lC:K.lookup fC=some ⟨ocC,odC,.func (PySem.W.fnOf "_law_cell_at" "_law_cell_at" (Zr ZaK) (Zo ZaK) (Zf ZaK) .none kVC dcC pmC anC cdC ctC),slC⟩) (cC:PySem.W.codeIn K cdC "_law_cell_at" = true) (kC:PySem.W.keepIn K (.ref fC)=true)
  (aD:PySem.W.nsIn K mainGlobals "_law_digits" = some (some (.ref fD))) (lD:K.lookup fD=some ⟨ocD,odD,.func (PySem.W.fnOf "_law_digits" "_law_digits" (Zr YF) (Zo YF) (Zf YF) .none kVD dcD pmD anD cdD ctD),slD⟩) (cD:PySem.W.codeIn K cdD "_law_digits" = true) (kD:PySem.W.keepIn K (.ref fD)=true)
  (aO:PySem.W.nsIn K mainGlobals "_law_row_on" = some (some (.ref fO))) (lO:K.lookup fO=some ⟨ocO,odO,.func (PySem.W.fnOf "_law_row_on" "_law_row_on" (Zr JH) (Zo JH) (Zf JH) .none kVO dcO pmO anO cdO ctO),slO⟩) (cO:PySem.W.codeIn K cdO "_law_row_on" = true) (kO:PySem.W.keepIn K (.ref fO)=true)
  (aS:PySem.W.nsIn K mainGlobals "_law_square" = some (some (.ref fS))) (lS:K.lookup fS=some ⟨ocS,odS,.func (PySem.W.fnOf "_law_square" "_law_square" (Zr Jt) (Zo Jt) (Zf Jt) .none kVS dcS pmS anS cdS ctS),slS⟩) (cS:PySem.W.codeIn K cdS "_law_square" = true) (kS:PySem.W.keepIn K (.ref fS)=true)
  (aR:PySem.W.nsIn K mainGlobals "_law_room" = some (some (.ref fR))) (lR:K.lookup fR=some ⟨ocR,odR,.func (PySem.W.fnOf "_law_room" "_law_room" (Zr JR) (Zo JR) (Zf JR) .none kVR dcR pmR anR cdR ctR),slR⟩) (cR:PySem.W.codeIn K cdR "_law_room" = true) (kR:PySem.W.keepIn K (.ref fR)=true)
  (aP:PySem.W.nsIn K mainGlobals "_law_put" = some (some (.ref fP))) (lP:K.lookup fP=some ⟨ocP,odP,.func (PySem.W.fnOf "_law_put" "_law_put" (Zr JA) (Zo JA) (Zf JA) .none kVP dcP pmP anP cdP ctP),slP⟩) (cP:PySem.W.codeIn K cdP "_law_put" = true) (kP:PySem.W.keepIn K (.ref fP)=true)
  (aE:PySem.W.nsIn K mainGlobals "_law_entered" = some (some (.ref fE))) (lE:K.lookup fE=some ⟨ocE,odE,.func (PySem.W.fnOf "_law_entered" "_law_entered" (Zr YZ) (Zo YZ) (Zf YZ) .none kVE dcE pmE anE cdE ctE),slE⟩) (cE:PySem.W.codeIn K cdE "_law_entered" = true) (kE:PySem.W.keepIn K (.ref fE)=true)
  (aT:PySem.W.nsIn K mainGlobals "_law_thinned" = some (some (.ref fT))) (lT:K.lookup fT=some ⟨ocT,odT,.func (PySem.W.fnOf "_law_thinned" "_law_thinned" (Zr YX) (Zo YX) (Zf YX) .none kVT dcT pmT anT cdT ctT),slT⟩) (cT:PySem.W.codeIn K cdT "_law_thinned" = true) (kT:PySem.W.keepIn K (.ref fT)=true)
  (aBg:PySem.W.nsIn K mainGlobals "_law_begun" = some (some (.ref fBg))) (lBg:K.lookup fBg=some ⟨ocBg,odBg,.func (PySem.W.fnOf "_law_begun" "_law_begun" (Zr Zaa) (Zo Zaa) (Zf Zaa) .none kVBg dcBg pmBg anBg cdBg ctBg),slBg⟩) (cBg:PySem.W.codeIn K cdBg "_law_begun" = true) (kBg:PySem.W.keepIn K (.ref fBg)=true)
  (aFu:PySem.W.nsIn K mainGlobals "_law_filled_up" = some (some (.ref fFu))) (lFu:K.lookup fFu=some ⟨ocFu,odFu,.func (PySem.W.fnOf "_law_filled_up" "_law_filled_up" (Zr Jd) (Zo Jd) (Zf Jd) .none kVFu dcFu pmFu anFu cdFu ctFu),slFu⟩) (cFu:PySem.W.codeIn K cdFu "_law_filled_up" = true) (kFu:PySem.W.keepIn K (.ref fFu)=true)
  (aCh:PySem.W.nsIn K mainGlobals "_law_choices" = some (some (.ref fCh))) (lCh:K.lookup fCh=some ⟨ocCh,odCh,.func (PySem.W.fnOf "_law_choices" "_law_choices" (Zr Y1) (Zo Y1) (Zf Y1) .none kVCh dcCh pmCh anCh cdCh ctCh),slCh⟩) (cCh:PySem.W.codeIn K cdCh "_law_choices" = true) (kCh:PySem.W.keepIn K (.ref fCh)=true)
  (aFL:PySem.W.nsIn K mainGlobals "_law_first" = some (some (.ref fFL))) (lFL:K.lookup fFL=some ⟨ocFL,odFL,.func (PySem.W.fnOf "_law_first" "_law_first" (Zr J8) (Zo J8) (Zf J8) .none kVFL dcFL pmFL anFL cdFL ctFL),slFL⟩) (cFL:PySem.W.codeIn K cdFL "_law_first" = true) (kFL:PySem.W.keepIn K (.ref fFL)=true)
  (aWi:PySem.W.nsIn K mainGlobals "_law_with" = some (some (.ref fWi))) (lWi:K.lookup fWi=some ⟨ocWi,odWi,.func (PySem.W.fnOf "_law_with" "_law_with" (Zr Zbn) (Zo Zbn) (Zf Zbn) .none kVWi dcWi pmWi anWi cdWi ctWi),slWi⟩) (cWi:PySem.W.codeIn K cdWi "_law_with" = true) (kWi:PySem.W.keepIn K (.ref fWi)=true)
  (aGl:PySem.W.nsIn K mainGlobals "_law_gone" = some (some (.ref fGl))) (lGl:K.lookup fGl=some ⟨ocGl,odGl,.func (PySem.W.fnOf "_law_gone" "_law_gone" (Zr JI) (Zo JI) (Zf JI) .none kVGl dcGl pmGl anGl cdGl ctGl),slGl⟩) (cGl:PySem.W.codeIn K cdGl "_law_gone" = true) (kGl:PySem.W.keepIn K (.ref fGl)=true)
  (aTh:PySem.W.nsIn K mainGlobals "_law_there_is" = some (some (.ref fTh))) (lTh:K.lookup fTh=some ⟨ocTh,odTh,.func (PySem.W.fnOf "_law_there_is" "_law_there_is" (Zr J5) (Zo J5) (Zf J5) .none kVTh dcTh pmTh anTh cdTh ctTh),slTh⟩) (cTh:PySem.W.codeIn K cdTh "_law_there_is" = true) (kTh:PySem.W.keepIn K (.ref fTh)=true)
  (aCo:PySem.W.nsIn K mainGlobals "_law_closings" = some (some (.ref fCo))) (lCo:K.lookup fCo=some ⟨ocCo,odCo,.func (PySem.W.fnOf "_law_closings" "_law_closings" (Zr J9) (Zo J9) (Zf J9) .none kVCo dcCo pmCo anCo cdCo ctCo),slCo⟩) (cCo:PySem.W.codeIn K cdCo "_law_closings" = true) (kCo:PySem.W.keepIn K (.ref fCo)=true)
  (aWo:PySem.W.nsIn K mainGlobals "_law_word" = some (some (.ref fWo))) (lWo:K.lookup fWo=some ⟨ocWo,odWo,.func (PySem.W.fnOf "_law_word" "_law_word" (Zr Zbm) (Zo Zbm) (Zf Zbm) .none kVWo dcWo pmWo anWo cdWo ctWo),slWo⟩) (cWo:PySem.W.codeIn K cdWo "_law_word" = true) (kWo:PySem.W.keepIn K (.ref fWo)=true)
  (aLaw:PySem.W.nsIn K mainGlobals "law" = some (some (.ref fLaw))) (lLaw:K.lookup fLaw=some ⟨ocLaw,odLaw,.func (PySem.W.fnOf "law" "law" (Zr ZbZ) (Zo ZbZ) (Zf ZbZ) .none kVLaw dcLaw pmLaw anLaw cdLaw ctLaw),slLaw⟩) (cLaw:PySem.W.codeIn K cdLaw "law" = true) (kLaw:PySem.W.keepIn K (.ref fLaw)=true)
  (z0:PySem.W.nsIn K mainGlobals "len" = some none)
  (z1:PySem.W.nsIn K mainGlobals "range" = some none)
  (z2:PySem.W.nsIn K mainGlobals "tuple" = some none)
  (z3:PySem.W.nsIn K mainGlobals "list" = some none)
  (z4:PySem.W.nsIn K mainGlobals "isinstance" = some none)
  (z5:PySem.W.nsIn K mainGlobals "int" = some none)
  (z6:PySem.W.nsIn K mainGlobals "bool" = some none)
  (z7:PySem.W.nsIn K mainGlobals "min" = some none)
  (z8:PySem.W.nsIn K mainGlobals "sorted" = some none)
  (z9:PySem.W.nsIn K mainGlobals "all" = some none)
  (z10:PySem.W.nsIn K mainGlobals "zip" = some none)
  (hcTab:cdFi = .ref cTab) (lTab:K.lookup cTab=some ⟨ocTab,odTab,.fields vsTab,slTab⟩) (vTab:vsTab[11]? = some (.ref Tb)) (nTab:PySem.W.noTabs K=true)
  (mgM:PySem.W.nsIn K mainGlobals "TooMany" = some (some (.ref gM)))
  (mgL:PySem.W.nsIn K mainGlobals "Looks" = some (some (.ref gL)))
  (mgZ:PySem.W.nsIn K mainGlobals "closed" = some (some (.ref fQz)))
  (mgC:PySem.W.nsIn K mainGlobals "closings" = some (some (.ref fQc)))
  (iQm:PySem.W.findIn K (.ref gM) "__init__" = some (some (.ref fQm)))
  (lQm:K.lookup fQm=some ⟨ocQm,odQm,.func (PySem.W.fnOf "__init__" "TooMany.__init__" (Zr JS) (Zo JS) (Zf JS) .none kVQm dcQm pmQm anQm cdQm ctQm),slQm⟩)
  (cQm:PySem.W.codeIn K cdQm "TooMany.__init__" = true)
  (kQm:PySem.W.keepIn K (.ref fQm)=true)
  (nQm:PySem.W.isFn K (.ref fQm)=true)
  (iQi:PySem.W.findIn K (.ref gL) "__init__" = some (some (.ref fQi)))
  (lQi:K.lookup fQi=some ⟨ocQi,odQi,.func (PySem.W.fnOf "__init__" "Looks.__init__" (Zr J7) (Zo J7) (Zf J7) .none kVQi dcQi pmQi anQi cdQi ctQi),slQi⟩)
  (cQi:PySem.W.codeIn K cdQi "Looks.__init__" = true)
  (kQi:PySem.W.keepIn K (.ref fQi)=true)
  (nQi:PySem.W.isFn K (.ref fQi)=true)
  (iQk:PySem.W.findIn K (.ref gL) "look" = some (some (.ref fQk)))
  (lQk:K.lookup fQk=some ⟨ocQk,odQk,.func (PySem.W.fnOf "look" "Looks.look" (Zr J6) (Zo J6) (Zf J6) .none kVQk dcQk pmQk anQk cdQk ctQk),slQk⟩)
  (cQk:PySem.W.codeIn K cdQk "Looks.look" = true)
  (kQk:PySem.W.keepIn K (.ref fQk)=true)
  (nQk:PySem.W.isFn K (.ref fQk)=true)
  (lQz:K.lookup fQz=some ⟨ocQz,odQz,.func (PySem.W.fnOf "closed" "closed" (Zr JJ) (Zo JJ) (Zf JJ) (.ref tC) kVQz dcQz pmQz anQz cdQz ctQz),slQz⟩)
  (cQz:PySem.W.codeIn K cdQz "closed" = true)
  (kQz:PySem.W.keepIn K (.ref fQz)=true)
  (nQz:PySem.W.isFn K (.ref fQz)=true)
  (lQc:K.lookup fQc=some ⟨ocQc,odQc,.func (PySem.W.fnOf "closings" "closings" (Zr YO) (Zo YO) (Zf YO) (.ref tD) kVQc dcQc pmQc anQc cdQc ctQc),slQc⟩)
  (cQc:PySem.W.codeIn K cdQc "closings" = true)
  (kQc:PySem.W.keepIn K (.ref fQc)=true)
  (nQc:PySem.W.isFn K (.ref fQc)=true)
  (lDf:K.lookup tC=some ⟨ocDf,odDf,.seq #[uDf] nDf,slDf⟩)
  (lDg:K.lookup tD=some ⟨ocDg,odDg,.seq #[uDg] nDg,slDg⟩)
  (xM:Zaj K gM fQm Zft "ValueError.__new__" = true)
  (pM:PySem.W.keepIn K (.ref gM)=true)
  (sM:XSt K gM "most")
  (eM:PySem.W.exmOne K (.ref gM) (.ref gM)=some true)
  (clL:Cls K gL)
  (naM:PySem.W.findIn K (.ref gL) "most" = some none)
  (naL:PySem.W.findIn K (.ref gL) "looked_at" = some none)
  (mkL:PySem.W.makesIn K gL=true)
  (pL:PySem.W.keepIn K (.ref gL)=true) :
  ∃ (fd:FuncData) (c T:Addr),(∀ (s:Shared) (v:Value),BindsTo s fd ⟨[v],[]⟩ [("_law_script",v)])/\PySem.W.noTabs K=true/\PySem.W.tabIn K "first_choice" = some (c,T)/\∀ base:Heap,PySem.W.CodeHd base c T->Za5 mg base->FnOk l.prog w K mg base CX0 46 fa fd ["_law_script"] (ZfC K T):=by
 have e:=hfa.symm.trans (PySem.W.mg_of X G aLaw)
 cases e
 have T:Blt mg:=⟨PySem.W.mg_none_of X G z0,PySem.W.mg_none_of X G z1,PySem.W.mg_none_of X G z2,PySem.W.mg_none_of X G z3,PySem.W.mg_none_of X G z4,PySem.W.mg_none_of X G z5,PySem.W.mg_none_of X G z6,PySem.W.mg_none_of X G z7,PySem.W.mg_none_of X G z8,PySem.W.mg_none_of X G z9,PySem.W.mg_none_of X G z10⟩
 have FHo:=Zy (st:=YY) lHo cHo kHo
 have FLe:=Zy (st:=ZaJ) lLe cLe kLe
 have FWe:=Zy (st:=J4) lWe cWe kWe
 have FCl:=Zy (st:=Je) lCl cCl kCl
 have FCs:=Zy (st:=Y0) lCs cCs kCs
 have FLa:=Zy (st:=Jc) lLa cLa kLa
 have FPl:=Zy (st:=Jb) lPl cPl kPl
 have FCe:=Zy (st:=Z7) lCe cCe kCe
 have FLi:=Zy (st:=Z6) lLi cLi kLi
 have FAl:=Zy (st:=Ym) lAl cAl kAl
 have FFi:=Zy (st:=ZY) lFi cFi kFi
 have FWc:=Zy (st:=JG) lWc cWc kWc
 have FGo:=Zy (st:=Zbo) lGo cGo kGo
 have FEa:=Zy (st:=Zbp) lEa cEa kEa
 have FC:=Zy (st:=ZaK) lC cC kC
 have FD:=Zy (st:=YF) lD cD kD
 have FO:=Zy (st:=JH) lO cO kO
 have FS:=Zy (st:=Jt) lS cS kS
 have FR:=Zy (st:=JR) lR cR kR
 have FP:=Zy (st:=JA) lP cP kP
 have FE:=Zy (st:=YZ) lE cE kE
 have FT:=Zy (st:=YX) lT cT kT
 have FBg:=Zy (st:=Zaa) lBg cBg kBg
 have FFu:=Zy (st:=Jd) lFu cFu kFu
 have FCh:=Zy (st:=Y1) lCh cCh kCh
 have FFL:=Zy (st:=J8) lFL cFL kFL
 have FWi:=Zy (st:=Zbn) lWi cWi kWi
 have FGl:=Zy (st:=JI) lGl cGl kGl
 have FTh:=Zy (st:=J5) lTh cTh kTh
 have FCo:=Zy (st:=J9) lCo cCo kCo
 have FWo:=Zy (st:=Zbm) lWo cWo kWo
 have FLaw:=Zy (st:=ZbZ) lLaw cLaw kLaw
 have DHo:Dfn K mg "is_whole" YY ["begun"] fHo _:=⟨FHo,ZcG (ps:=["begun"]) rfl FHo fun _ _ _ _ _ _ _=>rfl,PySem.W.mg_of X G aHo⟩
 have DLe:Dfn K mg "left" ZaJ ["begun","row","column"] fLe _:=⟨FLe,ZdP (ps:=["begun","row","column"]) rfl FLe fun _ _ _ _ _ _ _ _ _=>rfl,PySem.W.mg_of X G aLe⟩
 have DWe:Dfn K mg "with_entry" J4 ["begun","row","column","entry"] fWe _:=⟨FWe,Zkj (ps:=["begun","row","column","entry"]) rfl FWe fun _ _ _ _ _ _ _ _ _ _=>rfl,PySem.W.mg_of X G aWe⟩
 have DCl:Dfn K mg "column_of" Je ["rows","column"] fCl _:=⟨FCl,ZdQ (ps:=["rows","column"]) rfl FCl fun _ _ _ _ _ _ _ _=>rfl,PySem.W.mg_of X G aCl⟩
 have DCs:Dfn K mg "columns_of" Y0 ["begun"] fCs _:=⟨FCs,ZcG (ps:=["begun"]) rfl FCs fun _ _ _ _ _ _ _=>rfl,PySem.W.mg_of X G aCs⟩
 have DLa:Dfn K mg "lacked" Jc ["line","size"] fLa _:=⟨FLa,ZdQ (ps:=["line","size"]) rfl FLa fun _ _ _ _ _ _ _ _=>rfl,PySem.W.mg_of X G aLa⟩
 have DPl:Dfn K mg "places_left" Jb ["line","crossing","thing"] fPl _:=⟨FPl,ZdP (ps:=["line","crossing","thing"]) rfl FPl fun _ _ _ _ _ _ _ _ _=>rfl,PySem.W.mg_of X G aPl⟩
 have DCe:Dfn K mg "cell_choices" Z7 ["begun"] fCe _:=⟨FCe,ZcG (ps:=["begun"]) rfl FCe fun _ _ _ _ _ _ _=>rfl,PySem.W.mg_of X G aCe⟩
 have DLi:Dfn K mg "line_choices" Z6 ["name","lines","crossing"] fLi _:=⟨FLi,ZdP (ps:=["name","lines","crossing"]) rfl FLi fun _ _ _ _ _ _ _ _ _=>rfl,PySem.W.mg_of X G aLi⟩
 have DAl:Dfn K mg "all_choices" Ym ["begun"] fAl _:=⟨FAl,ZcG (ps:=["begun"]) rfl FAl fun _ _ _ _ _ _ _=>rfl,PySem.W.mg_of X G aAl⟩
 have DFi:Dfn K mg "first_choice" ZY ["begun"] fFi _:=⟨FFi,ZcG (ps:=["begun"]) rfl FFi fun _ _ _ _ _ _ _=>rfl,PySem.W.mg_of X G aFi⟩
 have DWc:Dfn K mg "with_chosen" JG ["begun","choice","number"] fWc _:=⟨FWc,ZdP (ps:=["begun","choice","number"]) rfl FWc fun _ _ _ _ _ _ _ _ _=>rfl,PySem.W.mg_of X G aWc⟩
 have DGo:Dfn K mg "gone_through" Zbo ["begun","looks"] fGo _:=⟨FGo,ZdQ (ps:=["begun","looks"]) rfl FGo fun _ _ _ _ _ _ _ _=>rfl,PySem.W.mg_of X G aGo⟩
 have DEa:Dfn K mg "with_each_chosen" Zbp ["begun"] fEa _:=⟨FEa,ZcG (ps:=["begun"]) rfl FEa fun _ _ _ _ _ _ _=>rfl,PySem.W.mg_of X G aEa⟩
 have DC:Dfn K mg "_law_cell_at" ZaK ["_law_script","_law_k"] fC _:=⟨FC,ZdQ (ps:=["_law_script","_law_k"]) rfl FC fun _ _ _ _ _ _ _ _=>rfl,PySem.W.mg_of X G aC⟩
 have DD:Dfn K mg "_law_digits" YF ["_law_cell","_law_many","_law_most"] fD _:=⟨FD,ZdP (ps:=["_law_cell","_law_many","_law_most"]) rfl FD fun _ _ _ _ _ _ _ _ _=>rfl,PySem.W.mg_of X G aD⟩
 have DO:Dfn K mg "_law_row_on" JH ["_law_above","_law_row","_law_size","_law_turns"] fO _:=⟨FO,Zkj (ps:=["_law_above","_law_row","_law_size","_law_turns"]) rfl FO fun _ _ _ _ _ _ _ _ _ _=>rfl,PySem.W.mg_of X G aO⟩
 have DS:Dfn K mg "_law_square" Jt ["_law_cell","_law_size"] fS _:=⟨FS,ZdQ (ps:=["_law_cell","_law_size"]) rfl FS fun _ _ _ _ _ _ _ _=>rfl,PySem.W.mg_of X G aS⟩
 have DR:Dfn K mg "_law_room" JR ["_law_begun_here","_law_row","_law_column"] fR _:=⟨FR,ZdP (ps:=["_law_begun_here","_law_row","_law_column"]) rfl FR fun _ _ _ _ _ _ _ _ _=>rfl,PySem.W.mg_of X G aR⟩
 have DP:Dfn K mg "_law_put" JA ["_law_begun_here","_law_row","_law_column","_law_thing"] fP _:=⟨FP,Zkj (ps:=["_law_begun_here","_law_row","_law_column","_law_thing"]) rfl FP fun _ _ _ _ _ _ _ _ _ _=>rfl,PySem.W.mg_of X G aP⟩
 have DE:Dfn K mg "_law_entered" YZ ["_law_cell","_law_size"] fE _:=⟨FE,ZdQ (ps:=["_law_cell","_law_size"]) rfl FE fun _ _ _ _ _ _ _ _=>rfl,PySem.W.mg_of X G aE⟩
 have DT:Dfn K mg "_law_thinned" YX ["_law_square_here","_law_cell","_law_most"] fT _:=⟨FT,ZdP (ps:=["_law_square_here","_law_cell","_law_most"]) rfl FT fun _ _ _ _ _ _ _ _ _=>rfl,PySem.W.mg_of X G aT⟩
 have DBg:Dfn K mg "_law_begun" Zaa ["_law_script","_law_start"] fBg _:=⟨FBg,ZdQ (ps:=["_law_script","_law_start"]) rfl FBg fun _ _ _ _ _ _ _ _=>rfl,PySem.W.mg_of X G aBg⟩
 have DFu:Dfn K mg "_law_filled_up" Jd ["_law_begun_here","_law_cell"] fFu _:=⟨FFu,ZdQ (ps:=["_law_begun_here","_law_cell"]) rfl FFu fun _ _ _ _ _ _ _ _=>rfl,PySem.W.mg_of X G aFu⟩
 have DCh:Dfn K mg "_law_choices" Y1 ["_law_begun_here"] fCh _:=⟨FCh,ZcG (ps:=["_law_begun_here"]) rfl FCh fun _ _ _ _ _ _ _=>rfl,PySem.W.mg_of X G aCh⟩
 have DFL:Dfn K mg "_law_first" J8 ["_law_begun_here"] fFL _:=⟨FFL,ZcG (ps:=["_law_begun_here"]) rfl FFL fun _ _ _ _ _ _ _=>rfl,PySem.W.mg_of X G aFL⟩
 have DWi:Dfn K mg "_law_with" Zbn ["_law_begun_here","_law_choice","_law_number"] fWi _:=⟨FWi,ZdP (ps:=["_law_begun_here","_law_choice","_law_number"]) rfl FWi fun _ _ _ _ _ _ _ _ _=>rfl,PySem.W.mg_of X G aWi⟩
 have DGl:Dfn K mg "_law_gone" JI ["_law_begun_here","_law_most","_law_looked"] fGl _:=⟨FGl,ZdP (ps:=["_law_begun_here","_law_most","_law_looked"]) rfl FGl fun _ _ _ _ _ _ _ _ _=>rfl,PySem.W.mg_of X G aGl⟩
 have DTh:Dfn K mg "_law_there_is" J5 ["_law_begun_here","_law_at"] fTh _:=⟨FTh,ZdQ (ps:=["_law_begun_here","_law_at"]) rfl FTh fun _ _ _ _ _ _ _ _=>rfl,PySem.W.mg_of X G aTh⟩
 have DCo:Dfn K mg "_law_closings" J9 ["_law_begun_here"] fCo _:=⟨FCo,ZcG (ps:=["_law_begun_here"]) rfl FCo fun _ _ _ _ _ _ _=>rfl,PySem.W.mg_of X G aCo⟩
 have DWo:Dfn K mg "_law_word" Zbm ["_law_begun_here"] fWo _:=⟨FWo,ZcG (ps:=["_law_begun_here"]) rfl FWo fun _ _ _ _ _ _ _=>rfl,PySem.W.mg_of X G aWo⟩
 exact ⟨PySem.W.fnOf "law" "law" (Zr ZbZ) (Zo ZbZ) (Zf ZbZ) .none kVLaw dcLaw pmLaw anLaw cdLaw ctLaw,cTab,Tb,fun s v=>.of_eq rfl,nTab,Zg8 aFi lFi hcTab lTab vTab,fun base CT BM=>Zj4 FLaw (Defs.mk T DC DBg DFu DTh DWo DGl DCo DP (ClF.mk (PySem.W.mg_of X G mgM) eM (PySem.W.mg_of X G mgZ) kQz (fun s us KX hl=>match us,hl with | [_,_],_=>BindsTo.of_defaults rfl (KX _ _ lDf) rfl rfl rfl) (ZcS (ZdI (st:=JJ) lQz cQz kQz) (GoD.mk T (LkF.mk (PySem.W.mg_of X G mgM) ⟨xM,nQm,pM⟩ sM (Zy (st:=JS) lQm cQm kQm) ((Zy (st:=JS) lQm cQm kQm).binds (ps:=["self","most"]) fun _ _ _ _ _ _ us hl=>match us,hl with | [_,_],_=>rfl) (PySem.W.mg_of X G mgL) clL naM naL ⟨mkL,iQi,nQi,pL⟩ (Zy (st:=J7) lQi cQi kQi) ((Zy (st:=J7) lQi cQi kQi).binds (ps:=["self","most"]) fun _ _ _ _ _ _ us hl=>match us,hl with | [_,_],_=>rfl) ⟨iQk,nQk,kQk⟩ (Zy (st:=J6) lQk cQk kQk) ((Zy (st:=J6) lQk cQk kQk).binds (ps:=["self"]) fun _ _ _ _ _ _ us hl=>match us,hl with | [_],_=>rfl)) DHo DFi DWc (ZaQ FFi hcTab CT BM T (ChD.mk DLe DCl DCs DLa DPl DCe DLi DAl)) (ZaO FWc T DWe)) DGo)) (ZhP FBg T (GenD.mk DC DD DO DS DR DP DE DT)) (ZgC FFu T (GenD.mk DC DD DO DS DR DP DE DT)) (Zd5 T DR DP DTh 37) (ZiR FWo (ClF.mk (PySem.W.mg_of X G mgM) eM (PySem.W.mg_of X G mgZ) kQz (fun s us KX hl=>match us,hl with | [_,_],_=>BindsTo.of_defaults rfl (KX _ _ lDf) rfl rfl rfl) (ZcS (ZdI (st:=JJ) lQz cQz kQz) (GoD.mk T (LkF.mk (PySem.W.mg_of X G mgM) ⟨xM,nQm,pM⟩ sM (Zy (st:=JS) lQm cQm kQm) ((Zy (st:=JS) lQm cQm kQm).binds (ps:=["self","most"]) fun _ _ _ _ _ _ us hl=>match us,hl with | [_,_],_=>rfl) (PySem.W.mg_of X G mgL) clL naM naL ⟨mkL,iQi,nQi,pL⟩ (Zy (st:=J7) lQi cQi kQi) ((Zy (st:=J7) lQi cQi kQi).binds (ps:=["self","most"]) fun _ _ _ _ _ _ us hl=>match us,hl with | [_,_],_=>rfl) ⟨iQk,nQk,kQk⟩ (Zy (st:=J6) lQk cQk kQk) ((Zy (st:=J6) lQk cQk kQk).binds (ps:=["self"]) fun _ _ _ _ _ _ us hl=>match us,hl with | [_],_=>rfl)) DHo DFi DWc (ZaQ FFi hcTab CT BM T (ChD.mk DLe DCl DCs DLa DPl DCe DLi DAl)) (ZaO FWc T DWe)) DGo))) (Zd7 T DFL (ZgB FFL T DR DCh) DWi (ZhK FWi T DP) DGl 37) (ZhN FCo (CsF.mk (PySem.W.mg_of X G mgM) eM (PySem.W.mg_of X G mgC) kQc (fun s us KX hl=>match us,hl with | [_,_],_=>BindsTo.of_defaults rfl (KX _ _ lDg) rfl rfl rfl) (Zd8 (ZdI (st:=YO) lQc cQc kQc) (GoD.mk T (LkF.mk (PySem.W.mg_of X G mgM) ⟨xM,nQm,pM⟩ sM (Zy (st:=JS) lQm cQm kQm) ((Zy (st:=JS) lQm cQm kQm).binds (ps:=["self","most"]) fun _ _ _ _ _ _ us hl=>match us,hl with | [_,_],_=>rfl) (PySem.W.mg_of X G mgL) clL naM naL ⟨mkL,iQi,nQi,pL⟩ (Zy (st:=J7) lQi cQi kQi) ((Zy (st:=J7) lQi cQi kQi).binds (ps:=["self","most"]) fun _ _ _ _ _ _ us hl=>match us,hl with | [_,_],_=>rfl) ⟨iQk,nQk,kQk⟩ (Zy (st:=J6) lQk cQk kQk) ((Zy (st:=J6) lQk cQk kQk).binds (ps:=["self"]) fun _ _ _ _ _ _ us hl=>match us,hl with | [_],_=>rfl)) DHo DFi DWc (ZaQ FFi hcTab CT BM T (ChD.mk DLe DCl DCs DLa DPl DCe DLi DAl)) (ZaO FWc T DWe)) DEa (ZiV FEa DFi DWc (ZaQ FFi hcTab CT BM T (ChD.mk DLe DCl DCs DLa DPl DCe DLi DAl)) (ZaO FWc T DWe))))))⟩
theorem walk {l:PySem.W.OpenLaw} {q:Program} {loose:List Str} {XP:(Str->Option Value)->Heap->Prop} {YP:World->Heap->Prop} {d d2:DefRec} {K:Params->PySem.W.Frag} (hn:l.most=some 63) (hdf:d.params.defaults=[]) (hrec:(PyProof.Rows.recsOf q).find? (fun e=>e.name==("first_choice" : Str))=some d2)
  (hY:∀ (w:World) (h:Heap),YP w h->(K w.params).In h)
  (F:∀ (w:World) (mg:Str->Option Value) (fa:Addr) (h:Heap),(K w.params).In h->h.Ns mainGlobals mg->mg d.name=some (.ref fa) ->
   ∃ (fd:FuncData) (c T:Addr),(∀ (s:Shared) (u:Value),BindsTo s fd ⟨[u],[]⟩ [("_law_script",u)])/\PySem.W.noTabs (K w.params)=true/\PySem.W.tabIn (K w.params) "first_choice" = some (c,T)/\∀ base:Heap,PySem.W.CodeHd base c T->Za5 mg base->FnOk l.prog w (K w.params) mg base CX0 46 fa fd ["_law_script"] (ZfC (K w.params) T)) :
  PySem.W.WalkO q loose XP YP l.row.toRowW d [] (fun f vs=>PySem.call f vs) :=
 L2.walk_ofT (n:=63) (k:=46) (x:="_law_script") (y:="first_choice") (qual:=Zcy) (sp:=ZfC) hn (by decide) hdf ⟨rfl,by decide,by decide⟩ hrec hY F fun _ _ a _ ns hl hT hS=>⟨a,ns,rfl,hS,hl,hT,fun _=>rfl⟩
end My
open PySem PySem.W PyProof.Rows
set_option maxRecDepth 100000 in
set_option maxHeartbeats 0 in
theorem PySem.Challenge.cw_latinclose_k25_whole_closed_just_where_holds : PySem.Challenge.rw_latinclose_k25_whole_closed_just_where.Holds := by
 w_on; o_law; k_head; (case hw=>w_witness2)
 k_fill
 refine My.walk (l:=PySem.Challenge.rw_latinclose_k25_whole_closed_just_where) rfl rfl rfl (fun w h Y=>PySem.W.km_in_of Y) ?F
 case F =>
  intro w mg fa h KX G hmg
  refine' My.all_mk KX G hmg ?aHo ?lHo ?cHo ?kHo ?aLe ?lLe ?cLe ?kLe ?aWe ?lWe ?cWe ?kWe ?aCl ?lCl ?cCl ?kCl ?aCs ?lCs ?cCs ?kCs ?aLa ?lLa ?cLa ?kLa ?aPl ?lPl ?cPl ?kPl ?aCe ?lCe ?cCe ?kCe ?aLi ?lLi ?cLi ?kLi ?aAl ?lAl ?cAl ?kAl ?aFi ?lFi ?cFi ?kFi ?aWc ?lWc ?cWc ?kWc ?aGo ?lGo ?cGo ?kGo ?aEa ?lEa ?cEa ?kEa ?aC ?lC ?cC ?kC ?aD ?lD ?cD ?kD ?aO ?lO ?cO ?kO ?aS ?lS ?cS ?kS ?aR ?lR ?cR ?kR ?aP ?lP ?cP ?kP ?aE ?lE ?cE ?kE ?aT ?lT ?cT ?kT ?aBg ?lBg ?cBg ?kBg ?aFu ?lFu ?cFu ?kFu ?aCh ?lCh ?cCh ?kCh ?aFL ?lFL ?cFL ?kFL ?aWi ?lWi ?cWi ?kWi ?aGl ?lGl ?cGl ?kGl ?aTh ?lTh ?cTh ?kTh ?aCo ?lCo ?cCo ?kCo ?aWo ?lWo ?cWo ?kWo ?aLaw ?lLaw ?cLaw ?kLaw ?z0 ?z1 ?z2 ?z3 ?z4 ?z5 ?z6 ?z7 ?z8 ?z9 ?z10 ?hcTab ?lTab ?vTab ?nTab ?mgM ?mgL ?mgZ ?mgC ?iQm ?lQm ?cQm ?kQm ?nQm ?iQi ?lQi ?cQi ?kQi ?nQi ?iQk ?lQk ?cQk ?kQk ?nQk ?lQz ?cQz ?kQz ?nQz ?lQc ?cQc ?kQc ?nQc ?lDf ?lDg ?xM ?pM ?sM ?eM ?clL ?naM ?naL ?mkL ?pL
  (case aHo=>k_is)
  (case lHo=>k_is)
  (case cHo=>k_is)
  (case kHo=>k_is)
  (case aLe=>k_is)
  (case lLe=>k_is)
  (case cLe=>k_is)
  (case kLe=>k_is)
  (case aWe=>k_is)
  (case lWe=>k_is)
  (case cWe=>k_is)
  (case kWe=>k_is)
  (case aCl=>k_is)
  (case lCl=>k_is)
  (case cCl=>k_is)
  (case kCl=>k_is)
  (case aCs=>k_is)
  (case lCs=>k_is)
  (case cCs=>k_is)
  (case kCs=>k_is)
  (case aLa=>k_is)
  (case lLa=>k_is)
  (case cLa=>k_is)
  (case kLa=>k_is)
  (case aPl=>k_is)
  (case lPl=>k_is)
  (case cPl=>k_is)
  (case kPl=>k_is)
  (case aCe=>k_is)
  (case lCe=>k_is)
  (case cCe=>k_is)
  (case kCe=>k_is)
  (case aLi=>k_is)
  (case lLi=>k_is)
  (case cLi=>k_is)
  (case kLi=>k_is)
  (case aAl=>k_is)
  (case lAl=>k_is)
  (case cAl=>k_is)
  (case kAl=>k_is)
  (case aFi=>k_is)
  (case lFi=>k_is)
  (case cFi=>k_is)
  (case kFi=>k_is)
  (case aWc=>k_is)
  (case lWc=>k_is)
  (case cWc=>k_is)
  (case kWc=>k_is)
  (case aGo=>k_is)
  (case lGo=>k_is)
  (case cGo=>k_is)
  (case kGo=>k_is)
  (case aEa=>k_is)
  (case lEa=>k_is)
  (case cEa=>k_is)
  (case kEa=>k_is)
  (case aC=>k_is)
  (case lC=>k_is)
  (case cC=>k_is)
  (case kC=>k_is)
  (case aD=>k_is)
  (case lD=>k_is)
  (case cD=>k_is)
  (case kD=>k_is)
  (case aO=>k_is)
  (case lO=>k_is)
  (case cO=>k_is)
  (case kO=>k_is)
  (case aS=>k_is)
  (case lS=>k_is)
  (case cS=>k_is)
  (case kS=>k_is)
  (case aR=>k_is)
  (case lR=>k_is)
  (case cR=>k_is)
  (case kR=>k_is)
  (case aP=>k_is)
  (case lP=>k_is)
  (case cP=>k_is)
  (case kP=>k_is)
  (case aE=>k_is)
  (case lE=>k_is)
  (case cE=>k_is)
  (case kE=>k_is)
  (case aT=>k_is)
  (case lT=>k_is)
  (case cT=>k_is)
  (case kT=>k_is)
  (case aBg=>k_is)
  (case lBg=>k_is)
  (case cBg=>k_is)
  (case kBg=>k_is)
  (case aFu=>k_is)
  (case lFu=>k_is)
  (case cFu=>k_is)
  (case kFu=>k_is)
  (case aCh=>k_is)
  (case lCh=>k_is)
  (case cCh=>k_is)
  (case kCh=>k_is)
  (case aFL=>k_is)
  (case lFL=>k_is)
  (case cFL=>k_is)
  (case kFL=>k_is)
  (case aWi=>k_is)
  (case lWi=>k_is)
  (case cWi=>k_is)
  (case kWi=>k_is)
  (case aGl=>k_is)
  (case lGl=>k_is)
  (case cGl=>k_is)
  (case kGl=>k_is)
  (case aTh=>k_is)
  (case lTh=>k_is)
  (case cTh=>k_is)
  (case kTh=>k_is)
  (case aCo=>k_is)
  (case lCo=>k_is)
  (case cCo=>k_is)
  (case kCo=>k_is)
  (case aWo=>k_is)
  (case lWo=>k_is)
  (case cWo=>k_is)
  (case kWo=>k_is)
  (case aLaw=>k_is)
  (case lLaw=>k_is)
  (case cLaw=>k_is)
  (case kLaw=>k_is)
  (case z0=>k_is)
  (case z1=>k_is)
  (case z2=>k_is)
  (case z3=>k_is)
  (case z4=>k_is)
  (case z5=>k_is)
  (case z6=>k_is)
  (case z7=>k_is)
  (case z8=>k_is)
  (case z9=>k_is)
  (case z10=>k_is)
  (case hcTab=>rfl)
  (case lTab=>k_is)
  (case vTab=>rfl)
  (case nTab=>kernel_rfl)
  (case mgM=>k_is)
  (case mgL=>k_is)
  (case mgZ=>k_is)
  (case mgC=>k_is)
  (case iQm=>k_is)
  (case lQm=>k_is)
  (case cQm=>k_is)
  (case kQm=>k_is)
  (case nQm=>k_is)
  (case iQi=>k_is)
  (case lQi=>k_is)
  (case cQi=>k_is)
  (case kQi=>k_is)
  (case nQi=>k_is)
  (case iQk=>k_is)
  (case lQk=>k_is)
  (case cQk=>k_is)
  (case kQk=>k_is)
  (case nQk=>k_is)
  (case lQz=>k_is)
  (case cQz=>k_is)
  (case kQz=>k_is)
  (case nQz=>k_is)
  (case lQc=>k_is)
  (case cQc=>k_is)
  (case kQc=>k_is)
  (case nQc=>k_is)
  (case lDf=>k_is)
  (case lDg=>k_is)
  (case xM=>kernel_rfl)
  (case pM=>k_is)
  (case sM=>exact ⟨by k_is,by k_is,by k_is⟩)
  (case eM=>kts_exm)
  (case clL=>exact ⟨by k_is,by k_is,by k_is,by k_is⟩)
  (case naM=>k_is)
  (case naL=>k_is)
  (case mkL=>k_is)
  (case pL=>k_is)
